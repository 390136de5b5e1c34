/- A part of the proof: what an interpreter answers on partly known states is what the program answers. No condition. -/
import Derived.Test.YtjkdkpdjmapieaaDoorE1FieldTellsO4
set_option maxRecDepth 100000
set_option linter.unusedVariables false
set_option linter.unusedSimpArgs false
set_option maxHeartbeats 4000000
namespace Go.Proofs.YtjkdkpdjmapieaaDoor.fieldTells
open Go Go.AX Go.Proofs Go.Proofs.YtjkdkpdjmapieaaDoor
variable {nu : Nat → Value} {one : ∀ i, i < 1000000 → (nu i).oneCell' = true} {E' : Cx} {x' : Ex} {e' : LA} {h' : LE}
theorem dT (l : LB) (c : Int) : -1 ≤ aD l c ∧ aD l c < (l.length : Int) := by
  unfold aD
  induction l with
  | nil => simp [Lib.indexByte]
  | cons b l ih =>
    unfold Lib.indexByte
    split
    · simp only [List.length_cons]; omega
    · split
      · simp only [List.length_cons]; omega
      · simp only [List.length_cons]; omega
abbrev pN (ln : LB) : LB := List.take (Int.toNat (aD ln 58)) ln
abbrev pV (ln : LB) : LB := List.drop (Int.toNat (aD ln 58 + 1)) ln
def pK (ln : LB) : Nat := if aD ln 58 < 0 then 1 else if ¬ bY (pN ln) = true then 2 else if ¬ cA (aT (pV ln)) = true then 3 else if 64 < aD ln 58 then 4 else if 512 < (aT (pV ln)).length then 5 else 0
def pA (ln : LB) : LB := if pK ln = 0 then pN ln else []
def pB (ln : LB) : LB := if pK ln = 0 then aT (pV ln) else []
def pC (ln : LB) : Int := if pK ln = 0 then 0 else if pK ln ≤ 3 then 10 else 12
def pM (k : Nat) : LB := if k = 1 then [u8 97, u8 32, u8 102, u8 105, u8 101, u8 108, u8 100, u8 32, u8 119, u8 105, u8 116, u8 104, u8 111, u8 117, u8 116, u8 32, u8 97, u8 32, u8 99, u8 111, u8 108, u8 111, u8 110] else if k = 2 then [u8 97, u8 32, u8 102, u8 105, u8 101, u8 108, u8 100, u8 39, u8 115, u8 32, u8 110, u8 97, u8 109, u8 101, u8 32, u8 116, u8 104, u8 97, u8 116, u8 32, u8 105, u8 115, u8 32, u8 110, u8 111, u8 32, u8 116, u8 111, u8 107, u8 101, u8 110] else if k = 3 then [u8 97, u8 32, u8 102, u8 105, u8 101, u8 108, u8 100, u8 39, u8 115, u8 32, u8 118, u8 97, u8 108, u8 117, u8 101, u8 32, u8 119, u8 105, u8 116, u8 104, u8 32, u8 97, u8 32, u8 98, u8 121, u8 116, u8 101, u8 32, u8 116, u8 104, u8 97, u8 116, u8 32, u8 109, u8 97, u8 121, u8 32, u8 110, u8 111, u8 116, u8 32, u8 98, u8 101] else if k = 4 then [u8 97, u8 32, u8 102, u8 105, u8 101, u8 108, u8 100, u8 39, u8 115, u8 32, u8 110, u8 97, u8 109, u8 101, u8 32, u8 116, u8 104, u8 97, u8 116, u8 32, u8 105, u8 115, u8 32, u8 116, u8 111, u8 111, u8 32, u8 108, u8 111, u8 110, u8 103] else [u8 97, u8 32, u8 102, u8 105, u8 101, u8 108, u8 100, u8 39, u8 115, u8 32, u8 118, u8 97, u8 108, u8 117, u8 101, u8 32, u8 116, u8 104, u8 97, u8 116, u8 32, u8 105, u8 115, u8 32, u8 116, u8 111, u8 111, u8 32, u8 108, u8 111, u8 110, u8 103]
def pE (ln : LB) : Value := if pK ln = 0 then .nilIface else .iface 70 (.agg #[.int .i64 (pC ln), St' (pM (pK ln))])
theorem gF (s : LB) : (pE s).oneCell' = true := by unfold pE; split <;> rfl
theorem fX {ln : LB} (h : aD ln 58 < 0) : pK ln = 1 := by unfold pK; rw [if_pos h]
theorem dZ {ln : LB} (h : ¬ aD ln 58 < 0) (h2 : ¬ bY (pN ln) = true) : pK ln = 2 := by unfold pK; rw [if_neg h, if_pos h2]
theorem fW {ln : LB} (h : ¬ aD ln 58 < 0) (h2 : bY (pN ln) = true) (h3 : ¬ cA (aT (pV ln)) = true) : pK ln = 3 := by unfold pK; rw [if_neg h, if_neg (fun e => e h2), if_pos h3]
theorem fV {ln : LB} (h : ¬ aD ln 58 < 0) (h2 : bY (pN ln) = true) (h3 : cA (aT (pV ln)) = true) (h4 : 64 < aD ln 58) : pK ln = 4 := by unfold pK; rw [if_neg h, if_neg (fun e => e h2), if_neg (fun e => e h3), if_pos h4]
theorem fT {ln : LB} (h : ¬ aD ln 58 < 0) (h2 : bY (pN ln) = true) (h3 : cA (aT (pV ln)) = true) (h4 : ¬ 64 < aD ln 58) (h5 : 512 < (aT (pV ln)).length) : pK ln = 5 := by unfold pK; rw [if_neg h, if_neg (fun e => e h2), if_neg (fun e => e h3), if_neg h4, if_pos h5]
theorem fY {ln : LB} (h : ¬ aD ln 58 < 0) (h2 : bY (pN ln) = true) (h3 : cA (aT (pV ln)) = true) (h4 : ¬ 64 < aD ln 58) (h5 : ¬ 512 < (aT (pV ln)).length) : pK ln = 0 := by unfold pK; rw [if_neg h, if_neg (fun e => e h2), if_neg (fun e => e h3), if_neg h4, if_neg h5]
theorem bz {ln : LB} {k : Nat} (h : pK ln = k) (hk : k ≠ 0) : (.tuple #[.agg #[St' (pA ln), St' (pB ln)], pE ln] : Value) = .tuple #[.agg #[St' [], St' []], .iface 70 (.agg #[.int .i64 (if k ≤ 3 then 10 else 12), St' (pM k)])] := by
  have h0 : ¬ pK ln = 0 := by rw [h]; exact hk
  unfold pA pB pE pC; rw [if_neg h0, if_neg h0, if_neg h0, if_neg h0, h]
theorem pvO {ln : LB} (h : pK ln = 0) : (.tuple #[.agg #[St' (pA ln), St' (pB ln)], pE ln] : Value) = .tuple #[.agg #[St' (pN ln), St' (aT (pV ln))], .nilIface] := by
  unfold pA pB pE; rw [if_pos h, if_pos h, if_pos h]
theorem cX {ln : LB} {k : Nat} (h : pK ln = k) (hk : k ≠ 0) : (.tuple #[.agg #[St' (pA ln), St' (pB ln)], .int .i64 (pC ln)] : Value) = .tuple #[.agg #[St' [], St' []], .int .i64 (if k ≤ 3 then 10 else 12)] := by
  have h0 : ¬ pK ln = 0 := by rw [h]; exact hk
  unfold pA pB pC; rw [if_neg h0, if_neg h0, if_neg h0, h]
theorem prO {ln : LB} (h : pK ln = 0) : (.tuple #[.agg #[St' (pA ln), St' (pB ln)], .int .i64 (pC ln)] : Value) = .tuple #[.agg #[St' (pN ln), St' (aT (pV ln))], .int .i64 0] := by
  unfold pA pB pC; rw [if_pos h, if_pos h, if_pos h]
theorem mf {ln : LB} (h : [u8 58] = ln) : aD ln 58 = 0 := by rw [← h]; decide
theorem l8 : ¬ bY [] = true := by decide
theorem Db {M : Nat} : ∀ l : LB, (∀ b, bl b = true → cj M b = true) → (l.dropWhile bl).all (cj M) = l.all (cj M)
  | [], _ => rfl
  | a :: l, h => by
    rw [List.dropWhile_cons]
    cases e : bl a with
    | true => rw [if_pos rfl, Db l h, List.all_cons, h a e, Bool.true_and]
    | false => rfl
theorem bl_vis (b : UInt8) (h : bl b = true) : cj dW b = true := by
  have k : ∀ n : Fin 256, bl (UInt8.ofNat n.val) = true → cj dW (UInt8.ofNat n.val) = true := by decide +kernel
  have := k ⟨b.toNat, b.toNat_lt⟩
  simpa using this (by simpa using h)
theorem dA (v : LB) : cA (aT v) = cA v := by
  unfold cA aT dF cT
  rw [List.all_reverse, Db _ bl_vis, List.all_reverse, Db _ bl_vis]
def im (ln : LB) (i : Int) : Int := if aD (ln.drop i.toNat) 58 < 0 then -1 else i + aD (ln.drop i.toNat) 58
theorem bE9 {b : UInt8} {l : LB} : aD (b :: l) 58 = if b = 58 then 0 else if aD l 58 < 0 then -1 else aD l 58 + 1 := by
  have e58 : u8 58 = 58 := rfl
  have hb := dT l 58
  unfold aD at hb ⊢
  rw [e58] at hb ⊢
  rw [Lib.indexByte]
  by_cases h : b = 58
  · rw [if_pos h, if_pos (by simpa using h)]
  · rw [if_neg h, if_neg (by simpa using h)]
    by_cases h2 : Lib.indexByte l 58 < 0
    · rw [if_pos h2, if_pos (by rw [beq_iff_eq]; omega)]
    · rw [if_neg h2, if_neg (by rw [beq_iff_eq]; omega)]
theorem bG1 {l : LB} {i : Int} (h0 : 0 ≤ i) (h : i < (l.length : Int)) : l.drop i.toNat = u8 (bt l i.toNat) :: l.drop (Int.toNat (i + 1)) := by
  rw [List.drop_eq_getElem_cons (by omega), jP, List.getD_eq_getElem?_getD, List.getElem?_eq_getElem (by omega), Option.getD_some, show (i + 1).toNat = i.toNat + 1 by omega]
theorem ixF_y {ln : LB} {i A : Int} (h0 : 0 ≤ i) (h : i < (ln.length : Int)) (hb : bt ln i.toNat = 58) (hA : im ln i = A) : i = A := by
  rw [← hA, im, bG1 h0 h, hb, show u8 58 = 58 from rfl, bE9, if_pos rfl, if_neg (by omega)]; omega
theorem ixF_n {ln : LB} {i A : Int} (h0 : 0 ≤ i) (h : i < (ln.length : Int)) (hb : ¬ bt ln i.toNat = 58) (hA : im ln i = A) : im ln (i + 1) = A := by
  have hne : ¬ u8 (bt ln i.toNat) = 58 := fun e => hb (by
    have := congrArg (fun b : UInt8 => (b.toNat : Int)) e
    simp only [l7 (bF _ _) (bG _ _)] at this
    exact this)
  rw [← hA]
  have hb2 := dT (ln.drop (Int.toNat (i + 1))) 58
  unfold im
  rw [bG1 h0 h, bE9, if_neg hne]
  by_cases h2 : aD (ln.drop (Int.toNat (i + 1))) 58 < 0
  · rw [if_pos h2, if_pos h2, if_pos (by omega)]
  · rw [if_neg h2, if_neg h2, if_neg (by omega)]; omega
theorem oW (ln : LB) : im ln 0 = aD ln 58 := by
  have := dT ln 58
  unfold im
  rw [show (0 : Int).toNat = 0 from rfl, List.drop_zero]
  split <;> omega
theorem ixF_e {ln : LB} {i A : Int} (h : (ln.length : Int) ≤ i) (hA : im ln i = A) : A = -1 := by
  rw [← hA, im, List.drop_eq_nil_of_le (by omega), if_pos (by decide)]
theorem fJ : bB.fn.get 8 = some (fI Tryd.f8 0) ∧ (fI Tryd.f8 0).body.isSome = true := ⟨rfl, by kernel_rfl⟩
def zF : LK := [(.bin .eql (.s 1 58) (.x 0), .b false), (.ext 77 [.x 0, .i .u8 (.ofNat 58)], .x 1), (.bin .geq (.x 1) (I6 0), .b false)]
theorem runParse_0 (e : Nat) : okA (call (aV zF) 9000 8 [.x 0] ⟨H0 e , 4, 0, 0⟩) (.tu [.ag [.s 0 0, .s 0 0], .bm 70 (.ag [I6 10, .s 23 10577595352064782555832588426925618080005505675071725665])]) = true := by kernel_rfl
def wu (ln : LB) : List Value := [St' ln, .int .i64 (aD ln 58)]
theorem pathParse_0 (ln : LB) (b0 : ln.length ≤ 9223372036854775807) (p0 : ln.length ≤ 140737488355328) (h0 : ¬ ([u8 58] = ln)) (h1 : ¬ (0 ≤ aD ln 58)) (w : World) (hl : aC w) : bN 8 #[St' ln] w (.tuple #[.agg #[St' ([] : LB), St' ([] : LB)], .iface 70 (.agg #[.int .i64 10, St' [u8 97, u8 32, u8 102, u8 105, u8 101, u8 108, u8 100, u8 32, u8 119, u8 105, u8 116, u8 104, u8 111, u8 117, u8 116, u8 32, u8 97, u8 32, u8 99, u8 111, u8 108, u8 111, u8 110]])]) := by
  have := dT ln 58
  have ho : ∀ k r, (k, r) ∈ zF → aL (cx (ai (wu ln)) (fun j _ => aQ (l := wu ln) rfl j) 1 aC aG) k r := by
    unfold zF
    exact hc (cH (bQ (l := [u8 58]) 1 58 rfl) (aA rfl) (by first | exact decide_eq_true rfl | exact decide_eq_true ‹_› | exact decide_eq_false ‹_›)) <|hc (gO (n := aD ln 58) gW gY gX (aA rfl) (dr (m := 58) rfl) (aE rfl) rfl) <|hc (gecF rfl (by omega)) <|hnil
  refine bp (tb := (aV zF)) (ra := .tu [.ag [.s 0 0, .s 0 0], .bm 70 (.ag [I6 10, .s 23 10577595352064782555832588426925618080005505675071725665])]) rfl ((ae (ai (wu ln)) (fun j _ => aQ (l := wu ln) rfl j)).hyps ho) rfl fJ.1 fJ.2 (fun e => runParse_0 e ) (args := [St' ln]) (by simp only [aF, Rel]; exact ⟨_, _, rfl, rfl, rfl⟩) w hl fun x hx => ?_
  simp only [Rel, aF] at hx
  obtain ⟨_, rfl, ⟨_, _, rfl, ⟨_, rfl, ⟨_, _, rfl, ⟨rfl, _⟩, ⟨_, _, rfl, ⟨rfl, _⟩, rfl⟩⟩⟩, ⟨_, _, rfl, ⟨_, rfl, ⟨_, rfl, ⟨_, _, rfl, rfl, ⟨_, _, rfl, ⟨rfl, _⟩, rfl⟩⟩⟩⟩, rfl⟩⟩⟩ := hx
  rfl
def zE : LK := [(.bin .eql (.s 1 58) (.x 0), .b true), (.sub (.x 0) none (some (I6 0)), .x 1), (.sub (.x 0) (some (I6 1)) none, .x 2), (.call 40 [.x 2, .s 2 2336], .x 3), (.call 38 [.x 1], .b false)]
theorem runParse_1 (e : Nat) : okA (call (aV zE) 9000 8 [.x 0] ⟨H0 e , 4, 0, 0⟩) (.tu [.ag [.s 0 0, .s 0 0], .bm 70 (.ag [I6 10, .s 31 195053149958377637163323602353056821652343320621615607581941524370030993505])]) = true := by kernel_rfl
def wt (ln : LB) : List Value := [St' ln, St' (List.take (Int.toNat (0)) ln), St' (List.drop (Int.toNat (1)) ln), St' (aT (List.drop (Int.toNat (1)) ln))]
theorem pathParse_1 (ln : LB) (b0 : ln.length ≤ 9223372036854775807) (p0 : ln.length ≤ 140737488355328) (h0 : [u8 58] = ln) (w : World) (hl : aC w) : bN 8 #[St' ln] w (.tuple #[.agg #[St' ([] : LB), St' ([] : LB)], .iface 70 (.agg #[.int .i64 10, St' [u8 97, u8 32, u8 102, u8 105, u8 101, u8 108, u8 100, u8 39, u8 115, u8 32, u8 110, u8 97, u8 109, u8 101, u8 32, u8 116, u8 104, u8 97, u8 116, u8 32, u8 105, u8 115, u8 32, u8 110, u8 111, u8 32, u8 116, u8 111, u8 107, u8 101, u8 110]])]) := by
  have hl1 : ln.length = 1 := by rw [← (by assumption : [u8 58] = ln)]; rfl
  have := dq (l := ln) (Q := 0) (by omega) (by omega)
  have := eA (l := ln) (P := 1) (by omega) (by omega)
  have := cR (List.drop (Int.toNat (1)) ln)
  have : ¬ bY (List.take (Int.toNat (0)) ln) = true := (by decide : ¬ bY [] = true)
  have ho : ∀ k r, (k, r) ∈ zE → aL (cx (ai (wt ln)) (fun j _ => aQ (l := wt ln) rfl j) 1 aC aG) k r := by
    unfold zE
    exact hc (cH (bQ (l := [u8 58]) 1 58 rfl) (aA rfl) (by first | exact decide_eq_true rfl | exact decide_eq_true ‹_› | exact decide_eq_false ‹_›)) <|hc (tkC rfl rfl (by omega)) <|hc (drC rfl rfl (by omega)) <|hc (eF (s := (List.drop (Int.toNat (1)) ln)) (aA rfl) (bQ (l := [u8 32, u8 9]) 2 2336 rfl) (aE (congrArg (fun l => St' l) ((dn _).symm)))) <|hc (gQ (s := (List.take (Int.toNat (0)) ln)) (aA rfl) (dh (by assumption))) <|hnil
  refine bp (tb := (aV zE)) (ra := .tu [.ag [.s 0 0, .s 0 0], .bm 70 (.ag [I6 10, .s 31 195053149958377637163323602353056821652343320621615607581941524370030993505])]) rfl ((ae (ai (wt ln)) (fun j _ => aQ (l := wt ln) rfl j)).hyps ho) rfl fJ.1 fJ.2 (fun e => runParse_1 e ) (args := [St' ln]) (by simp only [aF, Rel]; exact ⟨_, _, rfl, rfl, rfl⟩) w hl fun x hx => ?_
  simp only [Rel, aF] at hx
  obtain ⟨_, rfl, ⟨_, _, rfl, ⟨_, rfl, ⟨_, _, rfl, ⟨rfl, _⟩, ⟨_, _, rfl, ⟨rfl, _⟩, rfl⟩⟩⟩, ⟨_, _, rfl, ⟨_, rfl, ⟨_, rfl, ⟨_, _, rfl, rfl, ⟨_, _, rfl, ⟨rfl, _⟩, rfl⟩⟩⟩⟩, rfl⟩⟩⟩ := hx
  rfl
def zD : LK := [(.bin .eql (.s 1 58) (.x 0), .b false), (.ext 77 [.x 0, .i .u8 (.ofNat 58)], .x 1), (.bin .geq (.x 1) (I6 0), .b true), (.sub (.x 0) none (some (.x 1)), .x 2), (.bin .add (.x 1) (I6 1), .x 3), (.sub (.x 0) (some (.x 3)) none, .x 4), (.call 40 [.x 4, .s 2 2336], .x 5), (.call 38 [.x 2], .b false)]
theorem runParse_2 (e : Nat) : okA (call (aV zD) 9000 8 [.x 0] ⟨H0 e , 4, 0, 0⟩) (.tu [.ag [.s 0 0, .s 0 0], .bm 70 (.ag [I6 10, .s 31 195053149958377637163323602353056821652343320621615607581941524370030993505])]) = true := by kernel_rfl
def wq (ln : LB) : List Value := [St' ln, .int .i64 (aD ln 58), St' (List.take (Int.toNat (aD ln 58)) ln), .int .i64 ((aD ln 58) + 1), St' (List.drop (Int.toNat ((aD ln 58) + 1)) ln), St' (aT (List.drop (Int.toNat ((aD ln 58) + 1)) ln))]
theorem pathParse_2 (ln : LB) (b0 : ln.length ≤ 9223372036854775807) (p0 : ln.length ≤ 140737488355328) (h0 : ¬ ([u8 58] = ln)) (h1 : 0 ≤ aD ln 58) (h2 : ¬ (bY (List.take (Int.toNat (aD ln 58)) ln) = true)) (w : World) (hl : aC w) : bN 8 #[St' ln] w (.tuple #[.agg #[St' ([] : LB), St' ([] : LB)], .iface 70 (.agg #[.int .i64 10, St' [u8 97, u8 32, u8 102, u8 105, u8 101, u8 108, u8 100, u8 39, u8 115, u8 32, u8 110, u8 97, u8 109, u8 101, u8 32, u8 116, u8 104, u8 97, u8 116, u8 32, u8 105, u8 115, u8 32, u8 110, u8 111, u8 32, u8 116, u8 111, u8 107, u8 101, u8 110]])]) := by
  have := dT ln 58
  have := dq (l := ln) (Q := aD ln 58) (by omega) (by omega)
  have := eA (l := ln) (P := (aD ln 58) + 1) (by omega) (by omega)
  have := cR (List.drop (Int.toNat ((aD ln 58) + 1)) ln)
  have ho : ∀ k r, (k, r) ∈ zD → aL (cx (ai (wq ln)) (fun j _ => aQ (l := wq ln) rfl j) 1 aC aG) k r := by
    unfold zD
    exact hc (cH (bQ (l := [u8 58]) 1 58 rfl) (aA rfl) (by first | exact decide_eq_true rfl | exact decide_eq_true ‹_› | exact decide_eq_false ‹_›)) <|hc (gO (n := aD ln 58) gW gY gX (aA rfl) (dr (m := 58) rfl) (aE rfl) rfl) <|hc (jz rfl (by omega)) <|hc (eS rfl rfl rfl (by omega)) <|hc (bO rfl rfl (by omega)) <|hc (fm rfl rfl rfl (by omega)) <|hc (eF (s := (List.drop (Int.toNat ((aD ln 58) + 1)) ln)) (aA rfl) (bQ (l := [u8 32, u8 9]) 2 2336 rfl) (aE (congrArg (fun l => St' l) ((dn _).symm)))) <|hc (gQ (s := (List.take (Int.toNat (aD ln 58)) ln)) (aA rfl) (dh (by assumption))) <|hnil
  refine bp (tb := (aV zD)) (ra := .tu [.ag [.s 0 0, .s 0 0], .bm 70 (.ag [I6 10, .s 31 195053149958377637163323602353056821652343320621615607581941524370030993505])]) rfl ((ae (ai (wq ln)) (fun j _ => aQ (l := wq ln) rfl j)).hyps ho) rfl fJ.1 fJ.2 (fun e => runParse_2 e ) (args := [St' ln]) (by simp only [aF, Rel]; exact ⟨_, _, rfl, rfl, rfl⟩) w hl fun x hx => ?_
  simp only [Rel, aF] at hx
  obtain ⟨_, rfl, ⟨_, _, rfl, ⟨_, rfl, ⟨_, _, rfl, ⟨rfl, _⟩, ⟨_, _, rfl, ⟨rfl, _⟩, rfl⟩⟩⟩, ⟨_, _, rfl, ⟨_, rfl, ⟨_, rfl, ⟨_, _, rfl, rfl, ⟨_, _, rfl, ⟨rfl, _⟩, rfl⟩⟩⟩⟩, rfl⟩⟩⟩ := hx
  rfl
def zC : LK := [(.bin .eql (.s 1 58) (.x 0), .b false), (.ext 77 [.x 0, .i .u8 (.ofNat 58)], .x 1), (.bin .geq (.x 1) (I6 0), .b true), (.sub (.x 0) none (some (.x 1)), .x 2), (.bin .add (.x 1) (I6 1), .x 3), (.sub (.x 0) (some (.x 3)) none, .x 4), (.call 40 [.x 4, .s 2 2336], .x 5), (.call 38 [.x 2], .b true), (.call 39 [.x 5], .b true), (.len (.x 2), .x 6), (.bin .gtr (.x 6) (I6 64), .b false), (.len (.x 5), .x 7), (.bin .gtr (.x 7) (I6 512), .b false)]
theorem runParse_3 (e : Nat) : okA (call (aV zC) 9000 8 [.x 0] ⟨H0 e , 4, 0, 0⟩) (.tu [.ag [.x 2, .x 5], .ni]) = true := by kernel_rfl
def wo (ln : LB) : List Value := [St' ln, .int .i64 (aD ln 58), St' (List.take (Int.toNat (aD ln 58)) ln), .int .i64 ((aD ln 58) + 1), St' (List.drop (Int.toNat ((aD ln 58) + 1)) ln), St' (aT (List.drop (Int.toNat ((aD ln 58) + 1)) ln)), .int .i64 ((aD ln 58)), .int .i64 (((aT (List.drop (Int.toNat ((aD ln 58) + 1)) ln)).length : Int))]
theorem pathParse_3 (ln : LB) (b0 : ln.length ≤ 9223372036854775807) (p0 : ln.length ≤ 140737488355328) (h0 : ¬ ([u8 58] = ln)) (h1 : 0 ≤ aD ln 58) (h2 : bY (List.take (Int.toNat (aD ln 58)) ln) = true) (h3 : cA (aT (List.drop (Int.toNat ((aD ln 58) + 1)) ln)) = true) (h4 : ¬ (64 < (aD ln 58))) (h5 : ¬ (512 < ((aT (List.drop (Int.toNat ((aD ln 58) + 1)) ln)).length : Int))) (w : World) (hl : aC w) : bN 8 #[St' ln] w (.tuple #[.agg #[St' (List.take (Int.toNat (aD ln 58)) ln), St' (aT (List.drop (Int.toNat ((aD ln 58) + 1)) ln))], .nilIface]) := by
  have := dT ln 58
  have := dq (l := ln) (Q := aD ln 58) (by omega) (by omega)
  have := eA (l := ln) (P := (aD ln 58) + 1) (by omega) (by omega)
  have := cR (List.drop (Int.toNat ((aD ln 58) + 1)) ln)
  have ho : ∀ k r, (k, r) ∈ zC → aL (cx (ai (wo ln)) (fun j _ => aQ (l := wo ln) rfl j) 1 aC aG) k r := by
    unfold zC
    exact hc (cH (bQ (l := [u8 58]) 1 58 rfl) (aA rfl) (by first | exact decide_eq_true rfl | exact decide_eq_true ‹_› | exact decide_eq_false ‹_›)) <|hc (gO (n := aD ln 58) gW gY gX (aA rfl) (dr (m := 58) rfl) (aE rfl) rfl) <|hc (jz rfl (by omega)) <|hc (eS rfl rfl rfl (by omega)) <|hc (bO rfl rfl (by omega)) <|hc (fm rfl rfl rfl (by omega)) <|hc (eF (s := (List.drop (Int.toNat ((aD ln 58) + 1)) ln)) (aA rfl) (bQ (l := [u8 32, u8 9]) 2 2336 rfl) (aE (congrArg (fun l => St' l) ((dn _).symm)))) <|hc (gQ (s := (List.take (Int.toNat (aD ln 58)) ln)) (aA rfl) (cM (by assumption))) <|hc (jq (s := (aT (List.drop (Int.toNat ((aD ln 58) + 1)) ln))) (aA rfl) (cM (by assumption))) <|hc (au rfl rfl (by omega)) <|hc (bq rfl (by omega)) <|hc (au rfl rfl (by omega)) <|hc (bq rfl (by omega)) <|hnil
  refine bp (tb := (aV zC)) (ra := .tu [.ag [.x 2, .x 5], .ni]) rfl ((ae (ai (wo ln)) (fun j _ => aQ (l := wo ln) rfl j)).hyps ho) rfl fJ.1 fJ.2 (fun e => runParse_3 e ) (args := [St' ln]) (by simp only [aF, Rel]; exact ⟨_, _, rfl, rfl, rfl⟩) w hl fun x hx => ?_
  simp only [Rel, aF] at hx
  obtain ⟨_, rfl, ⟨_, _, rfl, ⟨_, rfl, ⟨_, _, rfl, rfl, ⟨_, _, rfl, rfl, rfl⟩⟩⟩, ⟨_, _, rfl, rfl, rfl⟩⟩⟩ := hx
  rfl
def zB : LK := [(.bin .eql (.s 1 58) (.x 0), .b false), (.ext 77 [.x 0, .i .u8 (.ofNat 58)], .x 1), (.bin .geq (.x 1) (I6 0), .b true), (.sub (.x 0) none (some (.x 1)), .x 2), (.bin .add (.x 1) (I6 1), .x 3), (.sub (.x 0) (some (.x 3)) none, .x 4), (.call 40 [.x 4, .s 2 2336], .x 5), (.call 38 [.x 2], .b true), (.call 39 [.x 5], .b false)]
theorem runParse_4 (e : Nat) : okA (call (aV zB) 9000 8 [.x 0] ⟨H0 e , 4, 0, 0⟩) (.tu [.ag [.s 0 0, .s 0 0], .bm 70 (.ag [I6 10, .s 43 14192045650840644658529170585523350257391154252810650922002320430786485060056893453492521501416210440289])]) = true := by kernel_rfl
def wm (ln : LB) : List Value := [St' ln, .int .i64 (aD ln 58), St' (List.take (Int.toNat (aD ln 58)) ln), .int .i64 ((aD ln 58) + 1), St' (List.drop (Int.toNat ((aD ln 58) + 1)) ln), St' (aT (List.drop (Int.toNat ((aD ln 58) + 1)) ln))]
theorem pathParse_4 (ln : LB) (b0 : ln.length ≤ 9223372036854775807) (p0 : ln.length ≤ 140737488355328) (h0 : ¬ ([u8 58] = ln)) (h1 : 0 ≤ aD ln 58) (h2 : bY (List.take (Int.toNat (aD ln 58)) ln) = true) (h3 : ¬ (cA (aT (List.drop (Int.toNat ((aD ln 58) + 1)) ln)) = true)) (w : World) (hl : aC w) : bN 8 #[St' ln] w (.tuple #[.agg #[St' ([] : LB), St' ([] : LB)], .iface 70 (.agg #[.int .i64 10, St' [u8 97, u8 32, u8 102, u8 105, u8 101, u8 108, u8 100, u8 39, u8 115, u8 32, u8 118, u8 97, u8 108, u8 117, u8 101, u8 32, u8 119, u8 105, u8 116, u8 104, u8 32, u8 97, u8 32, u8 98, u8 121, u8 116, u8 101, u8 32, u8 116, u8 104, u8 97, u8 116, u8 32, u8 109, u8 97, u8 121, u8 32, u8 110, u8 111, u8 116, u8 32, u8 98, u8 101]])]) := by
  have := dT ln 58
  have := dq (l := ln) (Q := aD ln 58) (by omega) (by omega)
  have := eA (l := ln) (P := (aD ln 58) + 1) (by omega) (by omega)
  have := cR (List.drop (Int.toNat ((aD ln 58) + 1)) ln)
  have ho : ∀ k r, (k, r) ∈ zB → aL (cx (ai (wm ln)) (fun j _ => aQ (l := wm ln) rfl j) 1 aC aG) k r := by
    unfold zB
    exact hc (cH (bQ (l := [u8 58]) 1 58 rfl) (aA rfl) (by first | exact decide_eq_true rfl | exact decide_eq_true ‹_› | exact decide_eq_false ‹_›)) <|hc (gO (n := aD ln 58) gW gY gX (aA rfl) (dr (m := 58) rfl) (aE rfl) rfl) <|hc (jz rfl (by omega)) <|hc (eS rfl rfl rfl (by omega)) <|hc (bO rfl rfl (by omega)) <|hc (fm rfl rfl rfl (by omega)) <|hc (eF (s := (List.drop (Int.toNat ((aD ln 58) + 1)) ln)) (aA rfl) (bQ (l := [u8 32, u8 9]) 2 2336 rfl) (aE (congrArg (fun l => St' l) ((dn _).symm)))) <|hc (gQ (s := (List.take (Int.toNat (aD ln 58)) ln)) (aA rfl) (cM (by assumption))) <|hc (jq (s := (aT (List.drop (Int.toNat ((aD ln 58) + 1)) ln))) (aA rfl) (dh (by assumption))) <|hnil
  refine bp (tb := (aV zB)) (ra := .tu [.ag [.s 0 0, .s 0 0], .bm 70 (.ag [I6 10, .s 43 14192045650840644658529170585523350257391154252810650922002320430786485060056893453492521501416210440289])]) rfl ((ae (ai (wm ln)) (fun j _ => aQ (l := wm ln) rfl j)).hyps ho) rfl fJ.1 fJ.2 (fun e => runParse_4 e ) (args := [St' ln]) (by simp only [aF, Rel]; exact ⟨_, _, rfl, rfl, rfl⟩) w hl fun x hx => ?_
  simp only [Rel, aF] at hx
  obtain ⟨_, rfl, ⟨_, _, rfl, ⟨_, rfl, ⟨_, _, rfl, ⟨rfl, _⟩, ⟨_, _, rfl, ⟨rfl, _⟩, rfl⟩⟩⟩, ⟨_, _, rfl, ⟨_, rfl, ⟨_, rfl, ⟨_, _, rfl, rfl, ⟨_, _, rfl, ⟨rfl, _⟩, rfl⟩⟩⟩⟩, rfl⟩⟩⟩ := hx
  rfl
def zA : LK := [(.bin .eql (.s 1 58) (.x 0), .b false), (.ext 77 [.x 0, .i .u8 (.ofNat 58)], .x 1), (.bin .geq (.x 1) (I6 0), .b true), (.sub (.x 0) none (some (.x 1)), .x 2), (.bin .add (.x 1) (I6 1), .x 3), (.sub (.x 0) (some (.x 3)) none, .x 4), (.call 40 [.x 4, .s 2 2336], .x 5), (.call 38 [.x 2], .b true), (.call 39 [.x 5], .b true), (.len (.x 2), .x 6), (.bin .gtr (.x 6) (I6 64), .b true)]
theorem runParse_5 (e : Nat) : okA (call (aV zA) 9000 8 [.x 0] ⟨H0 e , 4, 0, 0⟩) (.tu [.ag [.s 0 0, .s 0 0], .bm 70 (.ag [I6 12, .s 31 182747443711471208076085756494561942872126296763519694800331953563798741089])]) = true := by kernel_rfl
def wk (ln : LB) : List Value := [St' ln, .int .i64 (aD ln 58), St' (List.take (Int.toNat (aD ln 58)) ln), .int .i64 ((aD ln 58) + 1), St' (List.drop (Int.toNat ((aD ln 58) + 1)) ln), St' (aT (List.drop (Int.toNat ((aD ln 58) + 1)) ln)), .int .i64 ((aD ln 58))]
theorem pathParse_5 (ln : LB) (b0 : ln.length ≤ 9223372036854775807) (p0 : ln.length ≤ 140737488355328) (h0 : ¬ ([u8 58] = ln)) (h1 : 0 ≤ aD ln 58) (h2 : bY (List.take (Int.toNat (aD ln 58)) ln) = true) (h3 : cA (aT (List.drop (Int.toNat ((aD ln 58) + 1)) ln)) = true) (h4 : 64 < (aD ln 58)) (w : World) (hl : aC w) : bN 8 #[St' ln] w (.tuple #[.agg #[St' ([] : LB), St' ([] : LB)], .iface 70 (.agg #[.int .i64 12, St' [u8 97, u8 32, u8 102, u8 105, u8 101, u8 108, u8 100, u8 39, u8 115, u8 32, u8 110, u8 97, u8 109, u8 101, u8 32, u8 116, u8 104, u8 97, u8 116, u8 32, u8 105, u8 115, u8 32, u8 116, u8 111, u8 111, u8 32, u8 108, u8 111, u8 110, u8 103]])]) := by
  have := dT ln 58
  have := dq (l := ln) (Q := aD ln 58) (by omega) (by omega)
  have := eA (l := ln) (P := (aD ln 58) + 1) (by omega) (by omega)
  have := cR (List.drop (Int.toNat ((aD ln 58) + 1)) ln)
  have ho : ∀ k r, (k, r) ∈ zA → aL (cx (ai (wk ln)) (fun j _ => aQ (l := wk ln) rfl j) 1 aC aG) k r := by
    unfold zA
    exact hc (cH (bQ (l := [u8 58]) 1 58 rfl) (aA rfl) (by first | exact decide_eq_true rfl | exact decide_eq_true ‹_› | exact decide_eq_false ‹_›)) <|hc (gO (n := aD ln 58) gW gY gX (aA rfl) (dr (m := 58) rfl) (aE rfl) rfl) <|hc (jz rfl (by omega)) <|hc (eS rfl rfl rfl (by omega)) <|hc (bO rfl rfl (by omega)) <|hc (fm rfl rfl rfl (by omega)) <|hc (eF (s := (List.drop (Int.toNat ((aD ln 58) + 1)) ln)) (aA rfl) (bQ (l := [u8 32, u8 9]) 2 2336 rfl) (aE (congrArg (fun l => St' l) ((dn _).symm)))) <|hc (gQ (s := (List.take (Int.toNat (aD ln 58)) ln)) (aA rfl) (cM (by assumption))) <|hc (jq (s := (aT (List.drop (Int.toNat ((aD ln 58) + 1)) ln))) (aA rfl) (cM (by assumption))) <|hc (au rfl rfl (by omega)) <|hc (dU rfl (by omega)) <|hnil
  refine bp (tb := (aV zA)) (ra := .tu [.ag [.s 0 0, .s 0 0], .bm 70 (.ag [I6 12, .s 31 182747443711471208076085756494561942872126296763519694800331953563798741089])]) rfl ((ae (ai (wk ln)) (fun j _ => aQ (l := wk ln) rfl j)).hyps ho) rfl fJ.1 fJ.2 (fun e => runParse_5 e ) (args := [St' ln]) (by simp only [aF, Rel]; exact ⟨_, _, rfl, rfl, rfl⟩) w hl fun x hx => ?_
  simp only [Rel, aF] at hx
  obtain ⟨_, rfl, ⟨_, _, rfl, ⟨_, rfl, ⟨_, _, rfl, ⟨rfl, _⟩, ⟨_, _, rfl, ⟨rfl, _⟩, rfl⟩⟩⟩, ⟨_, _, rfl, ⟨_, rfl, ⟨_, rfl, ⟨_, _, rfl, rfl, ⟨_, _, rfl, ⟨rfl, _⟩, rfl⟩⟩⟩⟩, rfl⟩⟩⟩ := hx
  rfl
def y9 : LK := [(.bin .eql (.s 1 58) (.x 0), .b false), (.ext 77 [.x 0, .i .u8 (.ofNat 58)], .x 1), (.bin .geq (.x 1) (I6 0), .b true), (.sub (.x 0) none (some (.x 1)), .x 2), (.bin .add (.x 1) (I6 1), .x 3), (.sub (.x 0) (some (.x 3)) none, .x 4), (.call 40 [.x 4, .s 2 2336], .x 5), (.call 38 [.x 2], .b true), (.call 39 [.x 5], .b true), (.len (.x 2), .x 6), (.bin .gtr (.x 6) (I6 64), .b false), (.len (.x 5), .x 7), (.bin .gtr (.x 7) (I6 512), .b true)]
theorem runParse_6 (e : Nat) : okA (call (aV y9) 9000 8 [.x 0] ⟨H0 e , 4, 0, 0⟩) (.tu [.ag [.s 0 0, .s 0 0], .bm 70 (.ag [I6 12, .s 32 46783345590136629267477953662607857375264332134587908757689197303719776362593])]) = true := by kernel_rfl
def wj (ln : LB) : List Value := [St' ln, .int .i64 (aD ln 58), St' (List.take (Int.toNat (aD ln 58)) ln), .int .i64 ((aD ln 58) + 1), St' (List.drop (Int.toNat ((aD ln 58) + 1)) ln), St' (aT (List.drop (Int.toNat ((aD ln 58) + 1)) ln)), .int .i64 ((aD ln 58)), .int .i64 (((aT (List.drop (Int.toNat ((aD ln 58) + 1)) ln)).length : Int))]
theorem pathParse_6 (ln : LB) (b0 : ln.length ≤ 9223372036854775807) (p0 : ln.length ≤ 140737488355328) (h0 : ¬ ([u8 58] = ln)) (h1 : 0 ≤ aD ln 58) (h2 : bY (List.take (Int.toNat (aD ln 58)) ln) = true) (h3 : cA (aT (List.drop (Int.toNat ((aD ln 58) + 1)) ln)) = true) (h4 : ¬ (64 < (aD ln 58))) (h5 : 512 < ((aT (List.drop (Int.toNat ((aD ln 58) + 1)) ln)).length : Int)) (w : World) (hl : aC w) : bN 8 #[St' ln] w (.tuple #[.agg #[St' ([] : LB), St' ([] : LB)], .iface 70 (.agg #[.int .i64 12, St' [u8 97, u8 32, u8 102, u8 105, u8 101, u8 108, u8 100, u8 39, u8 115, u8 32, u8 118, u8 97, u8 108, u8 117, u8 101, u8 32, u8 116, u8 104, u8 97, u8 116, u8 32, u8 105, u8 115, u8 32, u8 116, u8 111, u8 111, u8 32, u8 108, u8 111, u8 110, u8 103]])]) := by
  have := dT ln 58
  have := dq (l := ln) (Q := aD ln 58) (by omega) (by omega)
  have := eA (l := ln) (P := (aD ln 58) + 1) (by omega) (by omega)
  have := cR (List.drop (Int.toNat ((aD ln 58) + 1)) ln)
  have ho : ∀ k r, (k, r) ∈ y9 → aL (cx (ai (wj ln)) (fun j _ => aQ (l := wj ln) rfl j) 1 aC aG) k r := by
    unfold y9
    exact hc (cH (bQ (l := [u8 58]) 1 58 rfl) (aA rfl) (by first | exact decide_eq_true rfl | exact decide_eq_true ‹_› | exact decide_eq_false ‹_›)) <|hc (gO (n := aD ln 58) gW gY gX (aA rfl) (dr (m := 58) rfl) (aE rfl) rfl) <|hc (jz rfl (by omega)) <|hc (eS rfl rfl rfl (by omega)) <|hc (bO rfl rfl (by omega)) <|hc (fm rfl rfl rfl (by omega)) <|hc (eF (s := (List.drop (Int.toNat ((aD ln 58) + 1)) ln)) (aA rfl) (bQ (l := [u8 32, u8 9]) 2 2336 rfl) (aE (congrArg (fun l => St' l) ((dn _).symm)))) <|hc (gQ (s := (List.take (Int.toNat (aD ln 58)) ln)) (aA rfl) (cM (by assumption))) <|hc (jq (s := (aT (List.drop (Int.toNat ((aD ln 58) + 1)) ln))) (aA rfl) (cM (by assumption))) <|hc (au rfl rfl (by omega)) <|hc (bq rfl (by omega)) <|hc (au rfl rfl (by omega)) <|hc (dU rfl (by omega)) <|hnil
  refine bp (tb := (aV y9)) (ra := .tu [.ag [.s 0 0, .s 0 0], .bm 70 (.ag [I6 12, .s 32 46783345590136629267477953662607857375264332134587908757689197303719776362593])]) rfl ((ae (ai (wj ln)) (fun j _ => aQ (l := wj ln) rfl j)).hyps ho) rfl fJ.1 fJ.2 (fun e => runParse_6 e ) (args := [St' ln]) (by simp only [aF, Rel]; exact ⟨_, _, rfl, rfl, rfl⟩) w hl fun x hx => ?_
  simp only [Rel, aF] at hx
  obtain ⟨_, rfl, ⟨_, _, rfl, ⟨_, rfl, ⟨_, _, rfl, ⟨rfl, _⟩, ⟨_, _, rfl, ⟨rfl, _⟩, rfl⟩⟩⟩, ⟨_, _, rfl, ⟨_, rfl, ⟨_, rfl, ⟨_, _, rfl, rfl, ⟨_, _, rfl, ⟨rfl, _⟩, rfl⟩⟩⟩⟩, rfl⟩⟩⟩ := hx
  rfl
theorem callsParse (ln : LB) (b0 : ln.length ≤ 9223372036854775807) (p0 : ln.length ≤ 140737488355328) (w : World) (hl : aC w) : bN 8 #[St' ln] w ((.tuple #[.agg #[St' (pA ln), St' (pB ln)], pE ln])) := by
  by_cases h0 : [u8 58] = ln
  · rw [show ((.tuple #[.agg #[St' (pA ln), St' (pB ln)], pE ln]) : Value) = (.tuple #[.agg #[St' ([] : LB), St' ([] : LB)], .iface 70 (.agg #[.int .i64 10, St' [u8 97, u8 32, u8 102, u8 105, u8 101, u8 108, u8 100, u8 39, u8 115, u8 32, u8 110, u8 97, u8 109, u8 101, u8 32, u8 116, u8 104, u8 97, u8 116, u8 32, u8 105, u8 115, u8 32, u8 110, u8 111, u8 32, u8 116, u8 111, u8 107, u8 101, u8 110]])] : Value) from by first | (have hc := mf (by assumption); exact bz (k := 2) (dZ (by omega) (by show ¬ bY (pN ln) = true; rw [show pN ln = [] by unfold pN; rw [hc]; rfl]; exact l8)) (by decide)) | exact bz (k := 1) (fX (by omega)) (by decide) | exact bz (k := 2) (dZ (by omega) (by assumption)) (by decide) | exact bz (k := 3) (fW (by omega) (by assumption) (by assumption)) (by decide) | exact bz (k := 4) (fV (by omega) (by assumption) (by assumption) (by omega)) (by decide) | exact bz (k := 5) (fT (by omega) (by assumption) (by assumption) (by omega) (by show 512 < (aT (List.drop (Int.toNat ((aD ln 58) + 1)) ln)).length; omega)) (by decide) | exact pvO (fY (by omega) (by assumption) (by assumption) (by omega) (by show ¬ 512 < (aT (List.drop (Int.toNat ((aD ln 58) + 1)) ln)).length; omega))]
    exact pathParse_1 ln b0 p0 h0 w hl
  · by_cases h1 : 0 ≤ aD ln 58
    · by_cases h2 : bY (List.take (Int.toNat (aD ln 58)) ln) = true
      · by_cases h3 : cA (aT (List.drop (Int.toNat ((aD ln 58) + 1)) ln)) = true
        · by_cases h4 : 64 < (aD ln 58)
          · rw [show ((.tuple #[.agg #[St' (pA ln), St' (pB ln)], pE ln]) : Value) = (.tuple #[.agg #[St' ([] : LB), St' ([] : LB)], .iface 70 (.agg #[.int .i64 12, St' [u8 97, u8 32, u8 102, u8 105, u8 101, u8 108, u8 100, u8 39, u8 115, u8 32, u8 110, u8 97, u8 109, u8 101, u8 32, u8 116, u8 104, u8 97, u8 116, u8 32, u8 105, u8 115, u8 32, u8 116, u8 111, u8 111, u8 32, u8 108, u8 111, u8 110, u8 103]])] : Value) from by first | (have hc := mf (by assumption); exact bz (k := 2) (dZ (by omega) (by show ¬ bY (pN ln) = true; rw [show pN ln = [] by unfold pN; rw [hc]; rfl]; exact l8)) (by decide)) | exact bz (k := 1) (fX (by omega)) (by decide) | exact bz (k := 2) (dZ (by omega) (by assumption)) (by decide) | exact bz (k := 3) (fW (by omega) (by assumption) (by assumption)) (by decide) | exact bz (k := 4) (fV (by omega) (by assumption) (by assumption) (by omega)) (by decide) | exact bz (k := 5) (fT (by omega) (by assumption) (by assumption) (by omega) (by show 512 < (aT (List.drop (Int.toNat ((aD ln 58) + 1)) ln)).length; omega)) (by decide) | exact pvO (fY (by omega) (by assumption) (by assumption) (by omega) (by show ¬ 512 < (aT (List.drop (Int.toNat ((aD ln 58) + 1)) ln)).length; omega))]
            exact pathParse_5 ln b0 p0 h0 h1 h2 h3 h4 w hl
          · by_cases h5 : 512 < ((aT (List.drop (Int.toNat ((aD ln 58) + 1)) ln)).length : Int)
            · rw [show ((.tuple #[.agg #[St' (pA ln), St' (pB ln)], pE ln]) : Value) = (.tuple #[.agg #[St' ([] : LB), St' ([] : LB)], .iface 70 (.agg #[.int .i64 12, St' [u8 97, u8 32, u8 102, u8 105, u8 101, u8 108, u8 100, u8 39, u8 115, u8 32, u8 118, u8 97, u8 108, u8 117, u8 101, u8 32, u8 116, u8 104, u8 97, u8 116, u8 32, u8 105, u8 115, u8 32, u8 116, u8 111, u8 111, u8 32, u8 108, u8 111, u8 110, u8 103]])] : Value) from by first | (have hc := mf (by assumption); exact bz (k := 2) (dZ (by omega) (by show ¬ bY (pN ln) = true; rw [show pN ln = [] by unfold pN; rw [hc]; rfl]; exact l8)) (by decide)) | exact bz (k := 1) (fX (by omega)) (by decide) | exact bz (k := 2) (dZ (by omega) (by assumption)) (by decide) | exact bz (k := 3) (fW (by omega) (by assumption) (by assumption)) (by decide) | exact bz (k := 4) (fV (by omega) (by assumption) (by assumption) (by omega)) (by decide) | exact bz (k := 5) (fT (by omega) (by assumption) (by assumption) (by omega) (by show 512 < (aT (List.drop (Int.toNat ((aD ln 58) + 1)) ln)).length; omega)) (by decide) | exact pvO (fY (by omega) (by assumption) (by assumption) (by omega) (by show ¬ 512 < (aT (List.drop (Int.toNat ((aD ln 58) + 1)) ln)).length; omega))]
              exact pathParse_6 ln b0 p0 h0 h1 h2 h3 h4 h5 w hl
            · rw [show ((.tuple #[.agg #[St' (pA ln), St' (pB ln)], pE ln]) : Value) = (.tuple #[.agg #[St' (List.take (Int.toNat (aD ln 58)) ln), St' (aT (List.drop (Int.toNat ((aD ln 58) + 1)) ln))], .nilIface] : Value) from by first | (have hc := mf (by assumption); exact bz (k := 2) (dZ (by omega) (by show ¬ bY (pN ln) = true; rw [show pN ln = [] by unfold pN; rw [hc]; rfl]; exact l8)) (by decide)) | exact bz (k := 1) (fX (by omega)) (by decide) | exact bz (k := 2) (dZ (by omega) (by assumption)) (by decide) | exact bz (k := 3) (fW (by omega) (by assumption) (by assumption)) (by decide) | exact bz (k := 4) (fV (by omega) (by assumption) (by assumption) (by omega)) (by decide) | exact bz (k := 5) (fT (by omega) (by assumption) (by assumption) (by omega) (by show 512 < (aT (List.drop (Int.toNat ((aD ln 58) + 1)) ln)).length; omega)) (by decide) | exact pvO (fY (by omega) (by assumption) (by assumption) (by omega) (by show ¬ 512 < (aT (List.drop (Int.toNat ((aD ln 58) + 1)) ln)).length; omega))]
              exact pathParse_3 ln b0 p0 h0 h1 h2 h3 h4 h5 w hl
        · rw [show ((.tuple #[.agg #[St' (pA ln), St' (pB ln)], pE ln]) : Value) = (.tuple #[.agg #[St' ([] : LB), St' ([] : LB)], .iface 70 (.agg #[.int .i64 10, St' [u8 97, u8 32, u8 102, u8 105, u8 101, u8 108, u8 100, u8 39, u8 115, u8 32, u8 118, u8 97, u8 108, u8 117, u8 101, u8 32, u8 119, u8 105, u8 116, u8 104, u8 32, u8 97, u8 32, u8 98, u8 121, u8 116, u8 101, u8 32, u8 116, u8 104, u8 97, u8 116, u8 32, u8 109, u8 97, u8 121, u8 32, u8 110, u8 111, u8 116, u8 32, u8 98, u8 101]])] : Value) from by first | (have hc := mf (by assumption); exact bz (k := 2) (dZ (by omega) (by show ¬ bY (pN ln) = true; rw [show pN ln = [] by unfold pN; rw [hc]; rfl]; exact l8)) (by decide)) | exact bz (k := 1) (fX (by omega)) (by decide) | exact bz (k := 2) (dZ (by omega) (by assumption)) (by decide) | exact bz (k := 3) (fW (by omega) (by assumption) (by assumption)) (by decide) | exact bz (k := 4) (fV (by omega) (by assumption) (by assumption) (by omega)) (by decide) | exact bz (k := 5) (fT (by omega) (by assumption) (by assumption) (by omega) (by show 512 < (aT (List.drop (Int.toNat ((aD ln 58) + 1)) ln)).length; omega)) (by decide) | exact pvO (fY (by omega) (by assumption) (by assumption) (by omega) (by show ¬ 512 < (aT (List.drop (Int.toNat ((aD ln 58) + 1)) ln)).length; omega))]
          exact pathParse_4 ln b0 p0 h0 h1 h2 h3 w hl
      · rw [show ((.tuple #[.agg #[St' (pA ln), St' (pB ln)], pE ln]) : Value) = (.tuple #[.agg #[St' ([] : LB), St' ([] : LB)], .iface 70 (.agg #[.int .i64 10, St' [u8 97, u8 32, u8 102, u8 105, u8 101, u8 108, u8 100, u8 39, u8 115, u8 32, u8 110, u8 97, u8 109, u8 101, u8 32, u8 116, u8 104, u8 97, u8 116, u8 32, u8 105, u8 115, u8 32, u8 110, u8 111, u8 32, u8 116, u8 111, u8 107, u8 101, u8 110]])] : Value) from by first | (have hc := mf (by assumption); exact bz (k := 2) (dZ (by omega) (by show ¬ bY (pN ln) = true; rw [show pN ln = [] by unfold pN; rw [hc]; rfl]; exact l8)) (by decide)) | exact bz (k := 1) (fX (by omega)) (by decide) | exact bz (k := 2) (dZ (by omega) (by assumption)) (by decide) | exact bz (k := 3) (fW (by omega) (by assumption) (by assumption)) (by decide) | exact bz (k := 4) (fV (by omega) (by assumption) (by assumption) (by omega)) (by decide) | exact bz (k := 5) (fT (by omega) (by assumption) (by assumption) (by omega) (by show 512 < (aT (List.drop (Int.toNat ((aD ln 58) + 1)) ln)).length; omega)) (by decide) | exact pvO (fY (by omega) (by assumption) (by assumption) (by omega) (by show ¬ 512 < (aT (List.drop (Int.toNat ((aD ln 58) + 1)) ln)).length; omega))]
        exact pathParse_2 ln b0 p0 h0 h1 h2 w hl
    · rw [show ((.tuple #[.agg #[St' (pA ln), St' (pB ln)], pE ln]) : Value) = (.tuple #[.agg #[St' ([] : LB), St' ([] : LB)], .iface 70 (.agg #[.int .i64 10, St' [u8 97, u8 32, u8 102, u8 105, u8 101, u8 108, u8 100, u8 32, u8 119, u8 105, u8 116, u8 104, u8 111, u8 117, u8 116, u8 32, u8 97, u8 32, u8 99, u8 111, u8 108, u8 111, u8 110]])] : Value) from by first | (have hc := mf (by assumption); exact bz (k := 2) (dZ (by omega) (by show ¬ bY (pN ln) = true; rw [show pN ln = [] by unfold pN; rw [hc]; rfl]; exact l8)) (by decide)) | exact bz (k := 1) (fX (by omega)) (by decide) | exact bz (k := 2) (dZ (by omega) (by assumption)) (by decide) | exact bz (k := 3) (fW (by omega) (by assumption) (by assumption)) (by decide) | exact bz (k := 4) (fV (by omega) (by assumption) (by assumption) (by omega)) (by decide) | exact bz (k := 5) (fT (by omega) (by assumption) (by assumption) (by omega) (by show 512 < (aT (List.drop (Int.toNat ((aD ln 58) + 1)) ln)).length; omega)) (by decide) | exact pvO (fY (by omega) (by assumption) (by assumption) (by omega) (by show ¬ 512 < (aT (List.drop (Int.toNat ((aD ln 58) + 1)) ln)).length; omega))]
      exact pathParse_0 ln b0 p0 h0 h1 w hl
theorem zy {x0 r : AV} {ln : LB} (i0 : Is (cx nu one 1 aC aG) x0 (St' ln)) (hr : Den (cx nu one 1 aC aG) r ((.tuple #[.agg #[St' (pA ln), St' (pB ln)], pE ln]))) (b0 : ln.length ≤ 9223372036854775807 := by omega) (p0 : ln.length ≤ 140737488355328 := by omega) : aL (cx nu one 1 aC aG) (.call 8 [x0]) r := by
  intro ρ args ha w hl _
  simp only [aF] at ha
  obtain ⟨v0, t0, rfl, a0, rfl⟩ := ha
  have e0 := i0 ρ _ a0; subst e0
  exact (callsParse ln b0 p0 w hl).mono fun e w' he => ⟨_, he.1, hr ρ, he.2⟩
noncomputable def Im : Code := cS (Tryd.f12.body.getD .skip) 0
theorem oJ : cU (br (Tryd.f12.body.getD .skip)) 3 0 0 = true := by kernel_rfl
def oO : List Nat := [2, 3]
def Aj : LA := [(0, .x 0), (4, .x 1), (5, .x 2)]
def zg : LE := []
def wX (ln : LB) (A i at_ : Int) : List Value := [St' ln, .int .i64 (at_), .int .i64 (i), .int .i64 ((ln.length : Int)), .int .u8 (bt ln i.toNat), .int .i64 (i + 1), .int .i64 ((ln.length : Int)), .int .u8 (bt ln i.toNat), .int .i64 (i + 1), .int .i64 ((ln.length : Int)), .int .i64 ((ln.length : Int))]
def roRp_0 (ln : LB) (A i at_ : Int) : List Value := []
def tk (st : Nat × Int × Int) : LA := Aj
def hpRp (st : Nat × Int × Int) : LE := zg
def nuRp (ln : LB) (A : Int) (st : Nat × Int × Int) : List Value := wX ln A (st.2.1) (st.2.2)
def roRp (ln : LB) (A : Int) (st : Nat × Int × Int) : List Value := roRp_0 ln A (st.2.1) (st.2.2)
theorem onRp (ln : LB) (A : Int) (st : Nat × Int × Int) : ∀ j, (ai (nuRp ln A st) j).oneCell' = true := by
  intro j
  unfold nuRp
  exact aQ (l := wX ln A (st.2.1) (st.2.2)) rfl j
theorem ebRp (st : Nat × Int × Int) : (cG (tk st) && cO oO) = true := by
  unfold tk
  rfl
noncomputable def DRp (ln : LB) (A : Int) (st : Nat × Int × Int) (X : Nat → Value) : Cx := cx (af (nuRp ln A st) (rX (roRp ln A st) X)) (ah (onRp ln A st)) 1 aC aG
abbrev CjRp (ln : LB) (A : Int) (tag : Nat) (i at_ : Int) : Prop := (0 ≤ i) ∧ (i ≤ (ln.length : Int)) ∧ (-1 ≤ at_ ∧ at_ ≤ 9223372036854775807) ∧ (at_ < 0 → im ln i = A) ∧ (0 ≤ at_ → at_ = A) ∧ (tag < 1)
def lz (ln : LB) (A : Int) (st : Nat × Int × Int) : Prop := CjRp ln A st.1 (st.2.1) (st.2.2)
theorem kb {ln : LB} {A : Int} {tag : Nat} {i at_ : Int} (h : CjRp ln A tag i at_) : lz ln A (tag, i, at_) := h
theorem CU (ln : LB) (A : Int) (tag : Nat) (i at_ : Int) (h : lz ln A (tag, i, at_)) : CjRp ln A tag i at_ := h
def xu (ln : LB) (A : Int) (st : Nat × Int × Int) : Nat := (ln.length - (st.2.1).toNat)
abbrev ux (ln : LB) (A : Int) (E' : Cx) (ex' : Ex) (epx' : LA) (hpx' : LE) (st : Nat × Int × Int) (X : Nat → Value) : Prop := a6 E' Im oO 61 ex' 4 5 5 5 tk hpRp epx' hpx' (lz ln A) (xu ln A) (DRp ln A) st X
noncomputable abbrev Bv (ln : LB) (A i at_ : Int) (X : Nat → Value) : Cx := cx (af (wX ln A i at_) (rX (roRp_0 ln A i at_) X)) (ah (aQ (l := wX ln A i at_) rfl)) 1 aC aG
noncomputable abbrev p7 (h : LK) (x : Ex) (th : LA) (sg : List (Nat × Nat)) (m : Nat) (ep : LA) (hp : LE) : Bool := bn (code (aV h) 900 [] Im (bc (bf Aj oO) 61) ⟨ay zg .leaf, 5, 0, 0⟩) x oO 61 5 th sg 5 m ep hp
theorem stRp_0 {ln : LB} {A i at_ : Int} {X : Nat → Value} {h : LK} (y : Nat × Int × Int) {th : LA} {sg : List (Nat × Nat)} (ho : ∀ a' r', (a', r') ∈ h → aL (Bv ln A i at_ X) a' r') (hy : lz ln A y) (lt : xu ln A y < xu ln A (0, i, at_)) (ht : aw (Bv ln A i at_ X) (DRp ln A y X) th) (run : p7 h .normal th sg 5 (tk y) (hpRp y) = true) : ux ln A E' x' e' h' (0, i, at_) X :=
  a6.next (tb := aV h) (L := []) (f := 900) y ((ae _ _).hyps ho) (bA.nil _) rfl hy lt ht run
theorem lvRp_0 {ln : LB} {A i at_ : Int} {X : Nat → Value} {h : LK} {th : LA} {sg : List (Nat × Nat)} (hne : cI x' .normal = false) (ho : ∀ a' r', (a', r') ∈ h → aL (Bv ln A i at_ X) a' r') (ht : aw (Bv ln A i at_ X) E' th) (run : p7 h x' th sg 5 e' h' = true) : ux ln A E' x' e' h' (0, i, at_) X :=
  a6.leave (tb := aV h) (L := []) (f := 900) ((ae _ _).hyps ho) (bA.nil _) rfl hne ht run
def FB : LK := [(.len (.x 0), .x 3), (.bin .lss (.x 2) (.x 3), .b true), (.bin .lss (.x 1) (I6 0), .b true), (.idx (.x 0) (.x 2), .x 4), (.bin .eql (.x 4) (.i .u8 (.ofNat 58)), .b false), (.bin .add (.x 2) (I6 1), .x 5)]
theorem runRp_p0 : p7 FB .normal [(0, .x 0), (1, .x 1), (2, .x 5)] [] 5 Aj zg = true := by kernel_rfl
def FA : LK := [(.len (.x 0), .x 6), (.bin .lss (.x 2) (.x 6), .b true), (.bin .lss (.x 1) (I6 0), .b true), (.idx (.x 0) (.x 2), .x 7), (.bin .eql (.x 7) (.i .u8 (.ofNat 58)), .b true), (.bin .add (.x 2) (I6 1), .x 8)]
theorem runRp_p1 : p7 FA .normal [(0, .x 0), (1, .x 2), (2, .x 8)] [] 5 Aj zg = true := by kernel_rfl
def E9 : LK := [(.len (.x 0), .x 9), (.bin .lss (.x 2) (.x 9), .b false)]
theorem runRp_p2 : p7 E9 (.exit 0) [(0, .x 0), (1, .x 1)] [] 5 [(0, .x 0), (4, .x 1)] [] = true := by kernel_rfl
def E8 : LK := [(.len (.x 0), .x 10), (.bin .lss (.x 2) (.x 10), .b true), (.bin .lss (.x 1) (I6 0), .b false)]
theorem runRp_p3 : p7 E8 (.exit 0) [(0, .x 0), (1, .x 1)] [] 5 [(0, .x 0), (4, .x 1)] [] = true := by kernel_rfl
section
set_option linter.unusedSectionVars false
variable {ln : LB} {A : Int} (c0 : ln.length ≤ 140737488355328) {i at_ : Int} {X : Nat → Value}
include c0
theorem nxRp_p0 (hI : lz ln A (0, i, at_)) (h0 : i < (ln.length : Int)) (h1 : at_ < 0) (h2 : ¬ (bt ln i.toNat = 58)) : ux ln A E' x' e' h' (0, i, at_) X := by
  obtain ⟨i0, i1, i2, i3, i4, it⟩ := CU ln A 0 i at_ hI
  have := bF ln i.toNat; have := bG ln i.toNat
  refine stRp_0 (h := FB) (0, i + 1, at_) ?_ (kb ⟨by omega, by omega, by omega, fun _ => ixF_n (by omega) (by omega) (by assumption) (i3 (by omega)), fun h => by omega, by omega⟩) (by show ln.length - (i + 1).toNat < ln.length - i.toNat; omega) (aB (v := St' ln) rfl rfl (aB (v := .int .i64 (at_)) rfl rfl (bT (b := ((i + 1))) rfl rfl (by omega) (aI)))) runRp_p0
  unfold FB
  exact hc (au rfl rfl (by omega)) <|hc (ba rfl rfl (by omega)) <|hc (jb rfl (by omega)) <|hc (cm rfl rfl rfl (by omega)) <|hc (ek rfl (by omega)) <|hc (bO rfl rfl (by omega)) <|hnil
theorem nxRp_p1 (hI : lz ln A (0, i, at_)) (h0 : i < (ln.length : Int)) (h1 : at_ < 0) (h2 : bt ln i.toNat = 58) : ux ln A E' x' e' h' (0, i, at_) X := by
  obtain ⟨i0, i1, i2, i3, i4, it⟩ := CU ln A 0 i at_ hI
  have := bF ln i.toNat; have := bG ln i.toNat
  refine stRp_0 (h := FA) (0, i + 1, i) ?_ (kb ⟨by omega, by omega, by omega, fun h => by omega, fun _ => ixF_y (by omega) (by omega) (by omega) (i3 (by omega)), by omega⟩) (by show ln.length - (i + 1).toNat < ln.length - i.toNat; omega) (aB (v := St' ln) rfl rfl (aB (v := .int .i64 (i)) rfl rfl (bT (b := ((i + 1))) rfl rfl (by omega) (aI)))) runRp_p1
  unfold FA
  exact hc (au rfl rfl (by omega)) <|hc (ba rfl rfl (by omega)) <|hc (jb rfl (by omega)) <|hc (cm rfl rfl rfl (by omega)) <|hc (gZ rfl (by omega)) <|hc (bO rfl rfl (by omega)) <|hnil
end
def bC2 (ln : LB) (A : Int) : List Value := [St' ln, .int .i64 (A)]
def roERp_0 (ln : LB) (A : Int) : List Value := []
noncomputable def ERp_0 (ln : LB) (A : Int) : Cx := cx (af (bC2 ln A) (rX (roERp_0 ln A) (fun _ => .bool true))) (ah (aQ (l := bC2 ln A) rfl)) 1 aC aG
theorem roundsRp_0 (ln : LB) (A : Int) (c0 : ln.length ≤ 140737488355328) (st : Nat × Int × Int) (X : Nat → Value) (hI : lz ln A st) : ux ln A (ERp_0 ln A) (.exit 0) [(0, .x 0), (4, .x 1)] [] st X := by
  obtain ⟨tag, i, at_⟩ := st
  have hI0 := hI
  obtain ⟨i0, i1, i2, i3, i4, it⟩ := CU ln A tag i at_ hI
  obtain rfl : tag = 0 := by omega
  skip
  by_cases h0 : i < (ln.length : Int)
  · by_cases h1 : at_ < 0
    · by_cases h2 : bt ln i.toNat = 58
      · exact nxRp_p1 c0 hI0 h0 h1 h2
      · exact nxRp_p0 c0 hI0 h0 h1 h2
    · skip
      refine lvRp_0 (h := E8) rfl ?_ (aB (v := St' ln) rfl rfl (dK (v := .int .i64 (at_)) (u := .int .i64 (A)) rfl rfl (congrArg (Value.int .i64) (by rcases Int.lt_or_le at_ 0 with q | q <;> first | exact i4 q | (have e := ixF_e (by omega) (i3 q); omega))) (aI))) runRp_p3
      unfold E8
      exact hc (au rfl rfl (by omega)) <|hc (ba rfl rfl (by omega)) <|hc (ei rfl (by omega)) <|hnil
  · skip
    refine lvRp_0 (h := E9) rfl ?_ (aB (v := St' ln) rfl rfl (dK (v := .int .i64 (at_)) (u := .int .i64 (A)) rfl rfl (congrArg (Value.int .i64) (by rcases Int.lt_or_le at_ 0 with q | q <;> first | exact i4 q | (have e := ixF_e (by omega) (i3 q); omega))) (aI))) runRp_p2
    unfold E9
    exact hc (au rfl rfl (by omega)) <|hc (dB rfl rfl (by omega)) <|hnil
theorem oG (ln : LB) (A : Int) (c0 : ln.length ≤ 140737488355328) : ax (cx nu one 1 aC aG) (ERp_0 ln A) Im oO 61 (.exit 0) 4 5 5 5 tk hpRp [(0, .x 0), (4, .x 1)] [] (lz ln A) (DRp ln A) :=
  cF (xu ln A) (fun _ _ => rfl) (fun _ _ => rfl) (fun _ _ => rfl) (fun st X t ht => cE.trans (cD ((by decide : ∀ t, t ∈ oO → t < 1000000) t ht))) rfl rfl rfl ebRp rfl rfl (roundsRp_0 ln A c0)
noncomputable def j0 : FI := (bB.fn.get 12).getD default
theorem pG : bB.fn.get 12 = some j0 := by kernel_rfl
theorem mu : j0.body = some (Tryd.f12.body.getD .skip) := by kernel_rfl
theorem ox : j0.body.isSome = true := by rw [mu]; rfl
def Fb : LK := [(.bin .lss (.x 2) (I6 0), .b true)]
def ma : LH := ⟨4, 5, 5, [], []⟩
def gL : LF := ⟨3, 61, [(0, .x 0), (4, .i .i64 (.negSucc 0)), (5, I6 0)], [2, 3], (.exit 0), [(0, .x 1), (4, .x 2)], some ma⟩
noncomputable def aC0 : Tab := bI ({ bB with hyp := Fb }) 12 j0 [gL]
theorem runParseR_0 (e : Nat) : okA (call aC0 9000 12 [.x 0] ⟨H0 e , 4, 0, 0⟩) (.tu [.ag [.s 0 0, .s 0 0], I6 10]) = true := by kernel_rfl
def w6 (ln : LB) : List Value := [St' ln, St' ln, .int .i64 ((aD ln 58))]
theorem pathParseR_0 (ln : LB) (b0 : ln.length ≤ 9223372036854775807) (p0 : ln.length ≤ 140737488355328) (h0 : (aD ln 58) < 0) (w : World) (hl : aC w) : bN 12 #[St' ln] w (.tuple #[.agg #[St' ([] : LB), St' ([] : LB)], .int .i64 10]) := by
  have := dT ln 58
  have ho : ∀ k r, (k, r) ∈ Fb → aL (cx (ai (w6 ln)) (fun j _ => aQ (l := w6 ln) rfl j) 1 aC aG) k r := by
    unfold Fb
    exact hc (jb rfl (by omega)) <|hnil
  refine bp (tb := aC0) (ra := .tu [.ag [.s 0 0, .s 0 0], I6 10]) rfl (ar.bS ((ae (ai (w6 ln)) (fun j _ => aQ (l := w6 ln) rfl j)).hyps ho) (by omega) pG mu (bH (bR rfl ⟨0, oJ, ax.use (l := gL) (h := ma) (oG ln (aD ln 58) (by omega)) (0, (0 : Int), (-1 : Int)) (kb ⟨by omega, by omega, by omega, fun _ => oW ln, fun h => by omega, by omega⟩) rfl (by kernel_rfl) (ao := [(0, .x 0), (1, .i .i64 (.negSucc 0)), (2, I6 0)]) (aj := []) (fun X => aB (v := St' ln) rfl rfl (bK (show Is _ (.i .i64 (.negSucc 0)) (.int .i64 ((-1 : Int))) from bL (v := .int .i64 (-1)) (bP _ _) (by first | rfl | (congr 1; omega))) (bK (show Is _ (I6 0) (.int .i64 ((0 : Int))) from bL (v := .int .i64 0) (bP _ _) (by first | rfl | (congr 1; omega))) (aI)))) (by kernel_rfl) (ak := [(1, .x 0), (2, .x 1)]) (aB (v := St' ln) rfl rfl (aB (v := .int .i64 ((aD ln 58))) rfl rfl (aI))) (by kernel_rfl)⟩) bE)) rfl (cP (by omega)) ox (fun e => runParseR_0 e ) (args := [St' ln]) (by simp only [aF, Rel]; exact ⟨_, _, rfl, rfl, rfl⟩) w hl fun x hx => ?_
  simp only [Rel, aF] at hx
  obtain ⟨_, rfl, ⟨_, _, rfl, ⟨_, rfl, ⟨_, _, rfl, ⟨rfl, _⟩, ⟨_, _, rfl, ⟨rfl, _⟩, rfl⟩⟩⟩, ⟨_, _, rfl, rfl, rfl⟩⟩⟩ := hx
  rfl
def Fa : LK := [(.bin .lss (.x 2) (I6 0), .b false), (.sub (.x 1) none (some (.x 2)), .x 3), (.call 29 [.x 3], .b false)]
noncomputable def aB9 : Tab := bI ({ bB with hyp := Fa }) 12 j0 [gL]
theorem runParseR_1 (e : Nat) : okA (call aB9 9000 12 [.x 0] ⟨H0 e , 4, 0, 0⟩) (.tu [.ag [.s 0 0, .s 0 0], I6 10]) = true := by kernel_rfl
def w5 (ln : LB) : List Value := [St' ln, St' ln, .int .i64 ((aD ln 58)), St' (List.take (Int.toNat ((aD ln 58))) ln)]
theorem pathParseR_1 (ln : LB) (b0 : ln.length ≤ 9223372036854775807) (p0 : ln.length ≤ 140737488355328) (h0 : ¬ ((aD ln 58) < 0)) (h1 : ¬ (bY (List.take (Int.toNat ((aD ln 58))) ln) = true)) (w : World) (hl : aC w) : bN 12 #[St' ln] w (.tuple #[.agg #[St' ([] : LB), St' ([] : LB)], .int .i64 10]) := by
  have := dT ln 58
  have := dq (l := ln) (Q := (aD ln 58)) (by omega) (by omega)
  have ho : ∀ k r, (k, r) ∈ Fa → aL (cx (ai (w5 ln)) (fun j _ => aQ (l := w5 ln) rfl j) 1 aC aG) k r := by
    unfold Fa
    exact hc (ei rfl (by omega)) <|hc (eS rfl rfl rfl (by omega)) <|hc (hZ (s := (List.take (Int.toNat ((aD ln 58))) ln)) (aA rfl) (dh (by assumption))) <|hnil
  refine bp (tb := aB9) (ra := .tu [.ag [.s 0 0, .s 0 0], I6 10]) rfl (ar.bS ((ae (ai (w5 ln)) (fun j _ => aQ (l := w5 ln) rfl j)).hyps ho) (by omega) pG mu (bH (bR rfl ⟨0, oJ, ax.use (l := gL) (h := ma) (oG ln (aD ln 58) (by omega)) (0, (0 : Int), (-1 : Int)) (kb ⟨by omega, by omega, by omega, fun _ => oW ln, fun h => by omega, by omega⟩) rfl (by kernel_rfl) (ao := [(0, .x 0), (1, .i .i64 (.negSucc 0)), (2, I6 0)]) (aj := []) (fun X => aB (v := St' ln) rfl rfl (bK (show Is _ (.i .i64 (.negSucc 0)) (.int .i64 ((-1 : Int))) from bL (v := .int .i64 (-1)) (bP _ _) (by first | rfl | (congr 1; omega))) (bK (show Is _ (I6 0) (.int .i64 ((0 : Int))) from bL (v := .int .i64 0) (bP _ _) (by first | rfl | (congr 1; omega))) (aI)))) (by kernel_rfl) (ak := [(1, .x 0), (2, .x 1)]) (aB (v := St' ln) rfl rfl (aB (v := .int .i64 ((aD ln 58))) rfl rfl (aI))) (by kernel_rfl)⟩) bE)) rfl (cP (by omega)) ox (fun e => runParseR_1 e ) (args := [St' ln]) (by simp only [aF, Rel]; exact ⟨_, _, rfl, rfl, rfl⟩) w hl fun x hx => ?_
  simp only [Rel, aF] at hx
  obtain ⟨_, rfl, ⟨_, _, rfl, ⟨_, rfl, ⟨_, _, rfl, ⟨rfl, _⟩, ⟨_, _, rfl, ⟨rfl, _⟩, rfl⟩⟩⟩, ⟨_, _, rfl, rfl, rfl⟩⟩⟩ := hx
  rfl
def FZ : LK := [(.bin .lss (.x 2) (I6 0), .b false), (.sub (.x 1) none (some (.x 2)), .x 3), (.call 29 [.x 3], .b true), (.bin .add (.x 2) (I6 1), .x 4), (.sub (.x 1) (some (.x 4)) none, .x 5), (.call 30 [.x 5], .b true), (.call 31 [.x 5], .x 6), (.len (.x 3), .x 7), (.bin .gtr (.x 7) (I6 64), .b false), (.len (.x 6), .x 8), (.bin .gtr (.x 8) (I6 512), .b false)]
noncomputable def aB8 : Tab := bI ({ bB with hyp := FZ }) 12 j0 [gL]
theorem runParseR_2 (e : Nat) : okA (call aB8 9000 12 [.x 0] ⟨H0 e , 4, 0, 0⟩) (.tu [.ag [.x 3, .x 6], I6 0]) = true := by kernel_rfl
def wz (ln : LB) : List Value := [St' ln, St' ln, .int .i64 ((aD ln 58)), St' (List.take (Int.toNat ((aD ln 58))) ln), .int .i64 ((aD ln 58) + 1), St' (List.drop (Int.toNat ((aD ln 58) + 1)) ln), St' (aT (List.drop (Int.toNat ((aD ln 58) + 1)) ln)), .int .i64 ((aD ln 58)), .int .i64 (((aT (List.drop (Int.toNat ((aD ln 58) + 1)) ln)).length : Int))]
theorem pathParseR_2 (ln : LB) (b0 : ln.length ≤ 9223372036854775807) (p0 : ln.length ≤ 140737488355328) (h0 : ¬ ((aD ln 58) < 0)) (h1 : bY (List.take (Int.toNat ((aD ln 58))) ln) = true) (h2 : cA (List.drop (Int.toNat ((aD ln 58) + 1)) ln) = true) (h3 : ¬ (64 < (aD ln 58))) (h4 : ¬ (512 < ((aT (List.drop (Int.toNat ((aD ln 58) + 1)) ln)).length : Int))) (w : World) (hl : aC w) : bN 12 #[St' ln] w (.tuple #[.agg #[St' (List.take (Int.toNat ((aD ln 58))) ln), St' (aT (List.drop (Int.toNat ((aD ln 58) + 1)) ln))], .int .i64 0]) := by
  have := dT ln 58
  have := dq (l := ln) (Q := (aD ln 58)) (by omega) (by omega)
  have := eA (l := ln) (P := (aD ln 58) + 1) (by omega) (by omega)
  have := cR (List.drop (Int.toNat ((aD ln 58) + 1)) ln)
  have ho : ∀ k r, (k, r) ∈ FZ → aL (cx (ai (wz ln)) (fun j _ => aQ (l := wz ln) rfl j) 1 aC aG) k r := by
    unfold FZ
    exact hc (ei rfl (by omega)) <|hc (eS rfl rfl rfl (by omega)) <|hc (hZ (s := (List.take (Int.toNat ((aD ln 58))) ln)) (aA rfl) (cM (by assumption))) <|hc (bO rfl rfl (by omega)) <|hc (fm rfl rfl rfl (by omega)) <|hc (mj (s := (List.drop (Int.toNat ((aD ln 58) + 1)) ln)) (aA rfl) (cM (by assumption))) <|hc (fe (s := (List.drop (Int.toNat ((aD ln 58) + 1)) ln)) (aA rfl) (aE rfl)) <|hc (au rfl rfl (by omega)) <|hc (bq rfl (by omega)) <|hc (au rfl rfl (by omega)) <|hc (bq rfl (by omega)) <|hnil
  refine bp (tb := aB8) (ra := .tu [.ag [.x 3, .x 6], I6 0]) rfl (ar.bS ((ae (ai (wz ln)) (fun j _ => aQ (l := wz ln) rfl j)).hyps ho) (by omega) pG mu (bH (bR rfl ⟨0, oJ, ax.use (l := gL) (h := ma) (oG ln (aD ln 58) (by omega)) (0, (0 : Int), (-1 : Int)) (kb ⟨by omega, by omega, by omega, fun _ => oW ln, fun h => by omega, by omega⟩) rfl (by kernel_rfl) (ao := [(0, .x 0), (1, .i .i64 (.negSucc 0)), (2, I6 0)]) (aj := []) (fun X => aB (v := St' ln) rfl rfl (bK (show Is _ (.i .i64 (.negSucc 0)) (.int .i64 ((-1 : Int))) from bL (v := .int .i64 (-1)) (bP _ _) (by first | rfl | (congr 1; omega))) (bK (show Is _ (I6 0) (.int .i64 ((0 : Int))) from bL (v := .int .i64 0) (bP _ _) (by first | rfl | (congr 1; omega))) (aI)))) (by kernel_rfl) (ak := [(1, .x 0), (2, .x 1)]) (aB (v := St' ln) rfl rfl (aB (v := .int .i64 ((aD ln 58))) rfl rfl (aI))) (by kernel_rfl)⟩) bE)) rfl (cP (by omega)) ox (fun e => runParseR_2 e ) (args := [St' ln]) (by simp only [aF, Rel]; exact ⟨_, _, rfl, rfl, rfl⟩) w hl fun x hx => ?_
  simp only [Rel, aF] at hx
  obtain ⟨_, rfl, ⟨_, _, rfl, ⟨_, rfl, ⟨_, _, rfl, rfl, ⟨_, _, rfl, rfl, rfl⟩⟩⟩, ⟨_, _, rfl, rfl, rfl⟩⟩⟩ := hx
  rfl
def FY : LK := [(.bin .lss (.x 2) (I6 0), .b false), (.sub (.x 1) none (some (.x 2)), .x 3), (.call 29 [.x 3], .b true), (.bin .add (.x 2) (I6 1), .x 4), (.sub (.x 1) (some (.x 4)) none, .x 5), (.call 30 [.x 5], .b false)]
noncomputable def aB7 : Tab := bI ({ bB with hyp := FY }) 12 j0 [gL]
theorem runParseR_3 (e : Nat) : okA (call aB7 9000 12 [.x 0] ⟨H0 e , 4, 0, 0⟩) (.tu [.ag [.s 0 0, .s 0 0], I6 10]) = true := by kernel_rfl
def wy (ln : LB) : List Value := [St' ln, St' ln, .int .i64 ((aD ln 58)), St' (List.take (Int.toNat ((aD ln 58))) ln), .int .i64 ((aD ln 58) + 1), St' (List.drop (Int.toNat ((aD ln 58) + 1)) ln)]
theorem pathParseR_3 (ln : LB) (b0 : ln.length ≤ 9223372036854775807) (p0 : ln.length ≤ 140737488355328) (h0 : ¬ ((aD ln 58) < 0)) (h1 : bY (List.take (Int.toNat ((aD ln 58))) ln) = true) (h2 : ¬ (cA (List.drop (Int.toNat ((aD ln 58) + 1)) ln) = true)) (w : World) (hl : aC w) : bN 12 #[St' ln] w (.tuple #[.agg #[St' ([] : LB), St' ([] : LB)], .int .i64 10]) := by
  have := dT ln 58
  have := dq (l := ln) (Q := (aD ln 58)) (by omega) (by omega)
  have := eA (l := ln) (P := (aD ln 58) + 1) (by omega) (by omega)
  have ho : ∀ k r, (k, r) ∈ FY → aL (cx (ai (wy ln)) (fun j _ => aQ (l := wy ln) rfl j) 1 aC aG) k r := by
    unfold FY
    exact hc (ei rfl (by omega)) <|hc (eS rfl rfl rfl (by omega)) <|hc (hZ (s := (List.take (Int.toNat ((aD ln 58))) ln)) (aA rfl) (cM (by assumption))) <|hc (bO rfl rfl (by omega)) <|hc (fm rfl rfl rfl (by omega)) <|hc (mj (s := (List.drop (Int.toNat ((aD ln 58) + 1)) ln)) (aA rfl) (dh (by assumption))) <|hnil
  refine bp (tb := aB7) (ra := .tu [.ag [.s 0 0, .s 0 0], I6 10]) rfl (ar.bS ((ae (ai (wy ln)) (fun j _ => aQ (l := wy ln) rfl j)).hyps ho) (by omega) pG mu (bH (bR rfl ⟨0, oJ, ax.use (l := gL) (h := ma) (oG ln (aD ln 58) (by omega)) (0, (0 : Int), (-1 : Int)) (kb ⟨by omega, by omega, by omega, fun _ => oW ln, fun h => by omega, by omega⟩) rfl (by kernel_rfl) (ao := [(0, .x 0), (1, .i .i64 (.negSucc 0)), (2, I6 0)]) (aj := []) (fun X => aB (v := St' ln) rfl rfl (bK (show Is _ (.i .i64 (.negSucc 0)) (.int .i64 ((-1 : Int))) from bL (v := .int .i64 (-1)) (bP _ _) (by first | rfl | (congr 1; omega))) (bK (show Is _ (I6 0) (.int .i64 ((0 : Int))) from bL (v := .int .i64 0) (bP _ _) (by first | rfl | (congr 1; omega))) (aI)))) (by kernel_rfl) (ak := [(1, .x 0), (2, .x 1)]) (aB (v := St' ln) rfl rfl (aB (v := .int .i64 ((aD ln 58))) rfl rfl (aI))) (by kernel_rfl)⟩) bE)) rfl (cP (by omega)) ox (fun e => runParseR_3 e ) (args := [St' ln]) (by simp only [aF, Rel]; exact ⟨_, _, rfl, rfl, rfl⟩) w hl fun x hx => ?_
  simp only [Rel, aF] at hx
  obtain ⟨_, rfl, ⟨_, _, rfl, ⟨_, rfl, ⟨_, _, rfl, ⟨rfl, _⟩, ⟨_, _, rfl, ⟨rfl, _⟩, rfl⟩⟩⟩, ⟨_, _, rfl, rfl, rfl⟩⟩⟩ := hx
  rfl
def FX : LK := [(.bin .lss (.x 2) (I6 0), .b false), (.sub (.x 1) none (some (.x 2)), .x 3), (.call 29 [.x 3], .b true), (.bin .add (.x 2) (I6 1), .x 4), (.sub (.x 1) (some (.x 4)) none, .x 5), (.call 30 [.x 5], .b true), (.call 31 [.x 5], .x 6), (.len (.x 3), .x 7), (.bin .gtr (.x 7) (I6 64), .b true)]
noncomputable def aB6 : Tab := bI ({ bB with hyp := FX }) 12 j0 [gL]
theorem runParseR_4 (e : Nat) : okA (call aB6 9000 12 [.x 0] ⟨H0 e , 4, 0, 0⟩) (.tu [.ag [.s 0 0, .s 0 0], I6 12]) = true := by kernel_rfl
def wx (ln : LB) : List Value := [St' ln, St' ln, .int .i64 ((aD ln 58)), St' (List.take (Int.toNat ((aD ln 58))) ln), .int .i64 ((aD ln 58) + 1), St' (List.drop (Int.toNat ((aD ln 58) + 1)) ln), St' (aT (List.drop (Int.toNat ((aD ln 58) + 1)) ln)), .int .i64 ((aD ln 58))]
theorem pathParseR_4 (ln : LB) (b0 : ln.length ≤ 9223372036854775807) (p0 : ln.length ≤ 140737488355328) (h0 : ¬ ((aD ln 58) < 0)) (h1 : bY (List.take (Int.toNat ((aD ln 58))) ln) = true) (h2 : cA (List.drop (Int.toNat ((aD ln 58) + 1)) ln) = true) (h3 : 64 < (aD ln 58)) (w : World) (hl : aC w) : bN 12 #[St' ln] w (.tuple #[.agg #[St' ([] : LB), St' ([] : LB)], .int .i64 12]) := by
  have := dT ln 58
  have := dq (l := ln) (Q := (aD ln 58)) (by omega) (by omega)
  have := eA (l := ln) (P := (aD ln 58) + 1) (by omega) (by omega)
  have := cR (List.drop (Int.toNat ((aD ln 58) + 1)) ln)
  have ho : ∀ k r, (k, r) ∈ FX → aL (cx (ai (wx ln)) (fun j _ => aQ (l := wx ln) rfl j) 1 aC aG) k r := by
    unfold FX
    exact hc (ei rfl (by omega)) <|hc (eS rfl rfl rfl (by omega)) <|hc (hZ (s := (List.take (Int.toNat ((aD ln 58))) ln)) (aA rfl) (cM (by assumption))) <|hc (bO rfl rfl (by omega)) <|hc (fm rfl rfl rfl (by omega)) <|hc (mj (s := (List.drop (Int.toNat ((aD ln 58) + 1)) ln)) (aA rfl) (cM (by assumption))) <|hc (fe (s := (List.drop (Int.toNat ((aD ln 58) + 1)) ln)) (aA rfl) (aE rfl)) <|hc (au rfl rfl (by omega)) <|hc (dU rfl (by omega)) <|hnil
  refine bp (tb := aB6) (ra := .tu [.ag [.s 0 0, .s 0 0], I6 12]) rfl (ar.bS ((ae (ai (wx ln)) (fun j _ => aQ (l := wx ln) rfl j)).hyps ho) (by omega) pG mu (bH (bR rfl ⟨0, oJ, ax.use (l := gL) (h := ma) (oG ln (aD ln 58) (by omega)) (0, (0 : Int), (-1 : Int)) (kb ⟨by omega, by omega, by omega, fun _ => oW ln, fun h => by omega, by omega⟩) rfl (by kernel_rfl) (ao := [(0, .x 0), (1, .i .i64 (.negSucc 0)), (2, I6 0)]) (aj := []) (fun X => aB (v := St' ln) rfl rfl (bK (show Is _ (.i .i64 (.negSucc 0)) (.int .i64 ((-1 : Int))) from bL (v := .int .i64 (-1)) (bP _ _) (by first | rfl | (congr 1; omega))) (bK (show Is _ (I6 0) (.int .i64 ((0 : Int))) from bL (v := .int .i64 0) (bP _ _) (by first | rfl | (congr 1; omega))) (aI)))) (by kernel_rfl) (ak := [(1, .x 0), (2, .x 1)]) (aB (v := St' ln) rfl rfl (aB (v := .int .i64 ((aD ln 58))) rfl rfl (aI))) (by kernel_rfl)⟩) bE)) rfl (cP (by omega)) ox (fun e => runParseR_4 e ) (args := [St' ln]) (by simp only [aF, Rel]; exact ⟨_, _, rfl, rfl, rfl⟩) w hl fun x hx => ?_
  simp only [Rel, aF] at hx
  obtain ⟨_, rfl, ⟨_, _, rfl, ⟨_, rfl, ⟨_, _, rfl, ⟨rfl, _⟩, ⟨_, _, rfl, ⟨rfl, _⟩, rfl⟩⟩⟩, ⟨_, _, rfl, rfl, rfl⟩⟩⟩ := hx
  rfl
def FW : LK := [(.bin .lss (.x 2) (I6 0), .b false), (.sub (.x 1) none (some (.x 2)), .x 3), (.call 29 [.x 3], .b true), (.bin .add (.x 2) (I6 1), .x 4), (.sub (.x 1) (some (.x 4)) none, .x 5), (.call 30 [.x 5], .b true), (.call 31 [.x 5], .x 6), (.len (.x 3), .x 7), (.bin .gtr (.x 7) (I6 64), .b false), (.len (.x 6), .x 8), (.bin .gtr (.x 8) (I6 512), .b true)]
noncomputable def aB5 : Tab := bI ({ bB with hyp := FW }) 12 j0 [gL]
theorem runParseR_5 (e : Nat) : okA (call aB5 9000 12 [.x 0] ⟨H0 e , 4, 0, 0⟩) (.tu [.ag [.s 0 0, .s 0 0], I6 12]) = true := by kernel_rfl
def wv (ln : LB) : List Value := [St' ln, St' ln, .int .i64 ((aD ln 58)), St' (List.take (Int.toNat ((aD ln 58))) ln), .int .i64 ((aD ln 58) + 1), St' (List.drop (Int.toNat ((aD ln 58) + 1)) ln), St' (aT (List.drop (Int.toNat ((aD ln 58) + 1)) ln)), .int .i64 ((aD ln 58)), .int .i64 (((aT (List.drop (Int.toNat ((aD ln 58) + 1)) ln)).length : Int))]
theorem pathParseR_5 (ln : LB) (b0 : ln.length ≤ 9223372036854775807) (p0 : ln.length ≤ 140737488355328) (h0 : ¬ ((aD ln 58) < 0)) (h1 : bY (List.take (Int.toNat ((aD ln 58))) ln) = true) (h2 : cA (List.drop (Int.toNat ((aD ln 58) + 1)) ln) = true) (h3 : ¬ (64 < (aD ln 58))) (h4 : 512 < ((aT (List.drop (Int.toNat ((aD ln 58) + 1)) ln)).length : Int)) (w : World) (hl : aC w) : bN 12 #[St' ln] w (.tuple #[.agg #[St' ([] : LB), St' ([] : LB)], .int .i64 12]) := by
  have := dT ln 58
  have := dq (l := ln) (Q := (aD ln 58)) (by omega) (by omega)
  have := eA (l := ln) (P := (aD ln 58) + 1) (by omega) (by omega)
  have := cR (List.drop (Int.toNat ((aD ln 58) + 1)) ln)
  have ho : ∀ k r, (k, r) ∈ FW → aL (cx (ai (wv ln)) (fun j _ => aQ (l := wv ln) rfl j) 1 aC aG) k r := by
    unfold FW
    exact hc (ei rfl (by omega)) <|hc (eS rfl rfl rfl (by omega)) <|hc (hZ (s := (List.take (Int.toNat ((aD ln 58))) ln)) (aA rfl) (cM (by assumption))) <|hc (bO rfl rfl (by omega)) <|hc (fm rfl rfl rfl (by omega)) <|hc (mj (s := (List.drop (Int.toNat ((aD ln 58) + 1)) ln)) (aA rfl) (cM (by assumption))) <|hc (fe (s := (List.drop (Int.toNat ((aD ln 58) + 1)) ln)) (aA rfl) (aE rfl)) <|hc (au rfl rfl (by omega)) <|hc (bq rfl (by omega)) <|hc (au rfl rfl (by omega)) <|hc (dU rfl (by omega)) <|hnil
  refine bp (tb := aB5) (ra := .tu [.ag [.s 0 0, .s 0 0], I6 12]) rfl (ar.bS ((ae (ai (wv ln)) (fun j _ => aQ (l := wv ln) rfl j)).hyps ho) (by omega) pG mu (bH (bR rfl ⟨0, oJ, ax.use (l := gL) (h := ma) (oG ln (aD ln 58) (by omega)) (0, (0 : Int), (-1 : Int)) (kb ⟨by omega, by omega, by omega, fun _ => oW ln, fun h => by omega, by omega⟩) rfl (by kernel_rfl) (ao := [(0, .x 0), (1, .i .i64 (.negSucc 0)), (2, I6 0)]) (aj := []) (fun X => aB (v := St' ln) rfl rfl (bK (show Is _ (.i .i64 (.negSucc 0)) (.int .i64 ((-1 : Int))) from bL (v := .int .i64 (-1)) (bP _ _) (by first | rfl | (congr 1; omega))) (bK (show Is _ (I6 0) (.int .i64 ((0 : Int))) from bL (v := .int .i64 0) (bP _ _) (by first | rfl | (congr 1; omega))) (aI)))) (by kernel_rfl) (ak := [(1, .x 0), (2, .x 1)]) (aB (v := St' ln) rfl rfl (aB (v := .int .i64 ((aD ln 58))) rfl rfl (aI))) (by kernel_rfl)⟩) bE)) rfl (cP (by omega)) ox (fun e => runParseR_5 e ) (args := [St' ln]) (by simp only [aF, Rel]; exact ⟨_, _, rfl, rfl, rfl⟩) w hl fun x hx => ?_
  simp only [Rel, aF] at hx
  obtain ⟨_, rfl, ⟨_, _, rfl, ⟨_, rfl, ⟨_, _, rfl, ⟨rfl, _⟩, ⟨_, _, rfl, ⟨rfl, _⟩, rfl⟩⟩⟩, ⟨_, _, rfl, rfl, rfl⟩⟩⟩ := hx
  rfl
theorem callsParseR (ln : LB) (b0 : ln.length ≤ 9223372036854775807) (p0 : ln.length ≤ 140737488355328) (w : World) (hl : aC w) : bN 12 #[St' ln] w ((.tuple #[.agg #[St' (pA ln), St' (pB ln)], .int .i64 (pC ln)])) := by
  by_cases h0 : (aD ln 58) < 0
  · rw [show ((.tuple #[.agg #[St' (pA ln), St' (pB ln)], .int .i64 (pC ln)]) : Value) = (.tuple #[.agg #[St' ([] : LB), St' ([] : LB)], .int .i64 10] : Value) from by first | exact cX (k := 1) (fX (by omega)) (by decide) | exact cX (k := 2) (dZ (by omega) (by assumption)) (by decide) | exact cX (k := 3) (fW (by omega) (by assumption) (by rw [dA]; assumption)) (by decide) | exact cX (k := 4) (fV (by omega) (by assumption) (by rw [dA]; assumption) (by omega)) (by decide) | exact cX (k := 5) (fT (by omega) (by assumption) (by rw [dA]; assumption) (by omega) (by show 512 < (aT (List.drop (Int.toNat ((aD ln 58) + 1)) ln)).length; omega)) (by decide) | exact prO (fY (by omega) (by assumption) (by rw [dA]; assumption) (by omega) (by show ¬ 512 < (aT (List.drop (Int.toNat ((aD ln 58) + 1)) ln)).length; omega))]
    exact pathParseR_0 ln b0 p0 h0 w hl
  · by_cases h1 : bY (List.take (Int.toNat ((aD ln 58))) ln) = true
    · by_cases h2 : cA (List.drop (Int.toNat ((aD ln 58) + 1)) ln) = true
      · by_cases h3 : 64 < (aD ln 58)
        · rw [show ((.tuple #[.agg #[St' (pA ln), St' (pB ln)], .int .i64 (pC ln)]) : Value) = (.tuple #[.agg #[St' ([] : LB), St' ([] : LB)], .int .i64 12] : Value) from by first | exact cX (k := 1) (fX (by omega)) (by decide) | exact cX (k := 2) (dZ (by omega) (by assumption)) (by decide) | exact cX (k := 3) (fW (by omega) (by assumption) (by rw [dA]; assumption)) (by decide) | exact cX (k := 4) (fV (by omega) (by assumption) (by rw [dA]; assumption) (by omega)) (by decide) | exact cX (k := 5) (fT (by omega) (by assumption) (by rw [dA]; assumption) (by omega) (by show 512 < (aT (List.drop (Int.toNat ((aD ln 58) + 1)) ln)).length; omega)) (by decide) | exact prO (fY (by omega) (by assumption) (by rw [dA]; assumption) (by omega) (by show ¬ 512 < (aT (List.drop (Int.toNat ((aD ln 58) + 1)) ln)).length; omega))]
          exact pathParseR_4 ln b0 p0 h0 h1 h2 h3 w hl
        · by_cases h4 : 512 < ((aT (List.drop (Int.toNat ((aD ln 58) + 1)) ln)).length : Int)
          · rw [show ((.tuple #[.agg #[St' (pA ln), St' (pB ln)], .int .i64 (pC ln)]) : Value) = (.tuple #[.agg #[St' ([] : LB), St' ([] : LB)], .int .i64 12] : Value) from by first | exact cX (k := 1) (fX (by omega)) (by decide) | exact cX (k := 2) (dZ (by omega) (by assumption)) (by decide) | exact cX (k := 3) (fW (by omega) (by assumption) (by rw [dA]; assumption)) (by decide) | exact cX (k := 4) (fV (by omega) (by assumption) (by rw [dA]; assumption) (by omega)) (by decide) | exact cX (k := 5) (fT (by omega) (by assumption) (by rw [dA]; assumption) (by omega) (by show 512 < (aT (List.drop (Int.toNat ((aD ln 58) + 1)) ln)).length; omega)) (by decide) | exact prO (fY (by omega) (by assumption) (by rw [dA]; assumption) (by omega) (by show ¬ 512 < (aT (List.drop (Int.toNat ((aD ln 58) + 1)) ln)).length; omega))]
            exact pathParseR_5 ln b0 p0 h0 h1 h2 h3 h4 w hl
          · rw [show ((.tuple #[.agg #[St' (pA ln), St' (pB ln)], .int .i64 (pC ln)]) : Value) = (.tuple #[.agg #[St' (List.take (Int.toNat ((aD ln 58))) ln), St' (aT (List.drop (Int.toNat ((aD ln 58) + 1)) ln))], .int .i64 0] : Value) from by first | exact cX (k := 1) (fX (by omega)) (by decide) | exact cX (k := 2) (dZ (by omega) (by assumption)) (by decide) | exact cX (k := 3) (fW (by omega) (by assumption) (by rw [dA]; assumption)) (by decide) | exact cX (k := 4) (fV (by omega) (by assumption) (by rw [dA]; assumption) (by omega)) (by decide) | exact cX (k := 5) (fT (by omega) (by assumption) (by rw [dA]; assumption) (by omega) (by show 512 < (aT (List.drop (Int.toNat ((aD ln 58) + 1)) ln)).length; omega)) (by decide) | exact prO (fY (by omega) (by assumption) (by rw [dA]; assumption) (by omega) (by show ¬ 512 < (aT (List.drop (Int.toNat ((aD ln 58) + 1)) ln)).length; omega))]
            exact pathParseR_2 ln b0 p0 h0 h1 h2 h3 h4 w hl
      · rw [show ((.tuple #[.agg #[St' (pA ln), St' (pB ln)], .int .i64 (pC ln)]) : Value) = (.tuple #[.agg #[St' ([] : LB), St' ([] : LB)], .int .i64 10] : Value) from by first | exact cX (k := 1) (fX (by omega)) (by decide) | exact cX (k := 2) (dZ (by omega) (by assumption)) (by decide) | exact cX (k := 3) (fW (by omega) (by assumption) (by rw [dA]; assumption)) (by decide) | exact cX (k := 4) (fV (by omega) (by assumption) (by rw [dA]; assumption) (by omega)) (by decide) | exact cX (k := 5) (fT (by omega) (by assumption) (by rw [dA]; assumption) (by omega) (by show 512 < (aT (List.drop (Int.toNat ((aD ln 58) + 1)) ln)).length; omega)) (by decide) | exact prO (fY (by omega) (by assumption) (by rw [dA]; assumption) (by omega) (by show ¬ 512 < (aT (List.drop (Int.toNat ((aD ln 58) + 1)) ln)).length; omega))]
        exact pathParseR_3 ln b0 p0 h0 h1 h2 w hl
    · rw [show ((.tuple #[.agg #[St' (pA ln), St' (pB ln)], .int .i64 (pC ln)]) : Value) = (.tuple #[.agg #[St' ([] : LB), St' ([] : LB)], .int .i64 10] : Value) from by first | exact cX (k := 1) (fX (by omega)) (by decide) | exact cX (k := 2) (dZ (by omega) (by assumption)) (by decide) | exact cX (k := 3) (fW (by omega) (by assumption) (by rw [dA]; assumption)) (by decide) | exact cX (k := 4) (fV (by omega) (by assumption) (by rw [dA]; assumption) (by omega)) (by decide) | exact cX (k := 5) (fT (by omega) (by assumption) (by rw [dA]; assumption) (by omega) (by show 512 < (aT (List.drop (Int.toNat ((aD ln 58) + 1)) ln)).length; omega)) (by decide) | exact prO (fY (by omega) (by assumption) (by rw [dA]; assumption) (by omega) (by show ¬ 512 < (aT (List.drop (Int.toNat ((aD ln 58) + 1)) ln)).length; omega))]
      exact pathParseR_1 ln b0 p0 h0 h1 w hl
theorem zx {x0 r : AV} {ln : LB} (i0 : Is (cx nu one 1 aC aG) x0 (St' ln)) (hr : Den (cx nu one 1 aC aG) r ((.tuple #[.agg #[St' (pA ln), St' (pB ln)], .int .i64 (pC ln)]))) (b0 : ln.length ≤ 9223372036854775807 := by omega) (p0 : ln.length ≤ 140737488355328 := by omega) : aL (cx nu one 1 aC aG) (.call 12 [x0]) r := by
  intro ρ args ha w hl _
  simp only [aF] at ha
  obtain ⟨v0, t0, rfl, a0, rfl⟩ := ha
  have e0 := i0 ρ _ a0; subst e0
  exact (callsParseR ln b0 p0 w hl).mono fun e w' he => ⟨_, he.1, hr ρ, he.2⟩
end Go.Proofs.YtjkdkpdjmapieaaDoor.fieldTells

