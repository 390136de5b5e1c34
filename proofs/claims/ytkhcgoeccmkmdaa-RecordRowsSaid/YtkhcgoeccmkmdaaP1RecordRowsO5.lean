/- A part of the proof: an interpreter of the model's own code on partly known states, and that what it answers is what the program answers. No condition of its own. -/
import Derived.Test.YtkhcgoeccmkmdaaP1RecordRowsO4
set_option maxRecDepth 100000
set_option linter.unusedVariables false
set_option linter.unusedSimpArgs false
set_option maxHeartbeats 4000000
namespace Go.Proofs.Ytkhcgoeccmkmdaa.recordRows
open Go Go.AX Go.Proofs Go.Proofs.Ytkhcgoeccmkmdaa
variable {nu : Nat → Value} {one : ∀ i, i < 1000000 → (nu i).oneCell' = true} {E' : Cx} {x' : Ex} {e' : LA} {h' : LE}
variable {nu : Nat → Value} {one : ∀ i, i < 1000000 → (nu i).oneCell' = true} {E' : Cx} {x' : Ex} {e' : LA} {h' : LE}
noncomputable def bodyRa : Code := loopNo (Try.f3.body.getD .skip) 0
theorem keyRa : oneKey (loopsOf (Try.f3.body.getD .skip)) 7 0 0 = true := by kernel_rfl
def keepRa : List Nat := []
def epRa_0 : LA := [(0, .sr 1), (3, .x 1), (4, .x 0)]
def hpRa_0 : LE := [(1, .r 2000000 25 4 true)]
def nuRa_0 (z : List (Int × Int × LB × Int)) (i : Int) (T : LB) : List Value := [.int .i64 (i), St' T, .int .i64 ((z.length : Int)), .int .i64 ((nthR z (Int.toNat (i))).1), St' ((nthR z (Int.toNat (i))).2.2.1), .int .i64 (((nthR z (Int.toNat (i))).2.2.1.length : Int)), .int .i64 ((nthR z (Int.toNat (i))).2.1), .int .i64 ((nthR z (Int.toNat (i))).2.2.2), .int .u8 (((nthR z (Int.toNat (i))).1) % 256), .int .i64 (((nthR z (Int.toNat (i))).2.1) / 256), .int .u8 ((((nthR z (Int.toNat (i))).2.1) / 256) % 256), .int .u8 (((nthR z (Int.toNat (i))).2.1) % 256), .int .i64 (((nthR z (Int.toNat (i))).2.2.1.length : Int) / 256), .int .u8 ((((nthR z (Int.toNat (i))).2.2.1.length : Int) / 256) % 256), .int .u8 (((nthR z (Int.toNat (i))).2.2.1.length : Int) % 256), .int .u8 (((nthR z (Int.toNat (i))).2.2.2) % 256), St' ([u8 1, u8 (((nthR z (Int.toNat (i))).1) % 256), u8 ((((nthR z (Int.toNat (i))).2.1) / 256) % 256), u8 (((nthR z (Int.toNat (i))).2.1) % 256), u8 ((((nthR z (Int.toNat (i))).2.2.1.length : Int) / 256) % 256), u8 (((nthR z (Int.toNat (i))).2.2.1.length : Int) % 256), u8 (((nthR z (Int.toNat (i))).2.2.2) % 256), u8 0]), St' ([u8 1, u8 (((nthR z (Int.toNat (i))).1) % 256), u8 ((((nthR z (Int.toNat (i))).2.1) / 256) % 256), u8 (((nthR z (Int.toNat (i))).2.1) % 256), u8 ((((nthR z (Int.toNat (i))).2.2.1.length : Int) / 256) % 256), u8 (((nthR z (Int.toNat (i))).2.2.1.length : Int) % 256), u8 (((nthR z (Int.toNat (i))).2.2.2) % 256), u8 0] ++ (nthR z (Int.toNat (i))).2.2.1), St' (List.replicate (Int.toNat ((nthR z (Int.toNat (i))).2.2.2)) 0), St' ([u8 1, u8 (((nthR z (Int.toNat (i))).1) % 256), u8 ((((nthR z (Int.toNat (i))).2.1) / 256) % 256), u8 (((nthR z (Int.toNat (i))).2.1) % 256), u8 ((((nthR z (Int.toNat (i))).2.2.1.length : Int) / 256) % 256), u8 (((nthR z (Int.toNat (i))).2.2.1.length : Int) % 256), u8 (((nthR z (Int.toNat (i))).2.2.2) % 256), u8 0] ++ ((nthR z (Int.toNat (i))).2.2.1 ++ (List.replicate (Int.toNat ((nthR z (Int.toNat (i))).2.2.2)) 0))), St' (T ++ ([u8 1, u8 (((nthR z (Int.toNat (i))).1) % 256), u8 ((((nthR z (Int.toNat (i))).2.1) / 256) % 256), u8 (((nthR z (Int.toNat (i))).2.1) % 256), u8 ((((nthR z (Int.toNat (i))).2.2.1.length : Int) / 256) % 256), u8 (((nthR z (Int.toNat (i))).2.2.1.length : Int) % 256), u8 (((nthR z (Int.toNat (i))).2.2.2) % 256), u8 0] ++ ((nthR z (Int.toNat (i))).2.2.1 ++ (List.replicate (Int.toNat ((nthR z (Int.toNat (i))).2.2.2)) 0)))), .int .i64 (i + 1), .int .i64 ((z.length : Int)), .int .i64 ((nthR z (Int.toNat (i))).1), St' ((nthR z (Int.toNat (i))).2.2.1), .int .i64 (((nthR z (Int.toNat (i))).2.2.1.length : Int)), .int .i64 ((nthR z (Int.toNat (i))).2.1), .int .i64 ((nthR z (Int.toNat (i))).2.2.2), St' T, .int .i64 (i + 1), .int .i64 ((z.length : Int)), .int .i64 ((nthR z (Int.toNat (i))).1), St' ((nthR z (Int.toNat (i))).2.2.1), .int .i64 (((nthR z (Int.toNat (i))).2.2.1.length : Int)), .int .i64 ((nthR z (Int.toNat (i))).2.1), .int .i64 ((nthR z (Int.toNat (i))).2.2.2), St' T, .int .i64 (i + 1), .int .i64 ((z.length : Int)), .int .i64 ((nthR z (Int.toNat (i))).1), St' ((nthR z (Int.toNat (i))).2.2.1), .int .i64 (((nthR z (Int.toNat (i))).2.2.1.length : Int)), .int .i64 ((nthR z (Int.toNat (i))).2.1), .int .i64 ((nthR z (Int.toNat (i))).2.2.2), St' T, .int .i64 (i + 1), .int .i64 ((z.length : Int)), .int .i64 ((nthR z (Int.toNat (i))).1), St' ((nthR z (Int.toNat (i))).2.2.1), .int .i64 (((nthR z (Int.toNat (i))).2.2.1.length : Int)), .int .i64 ((nthR z (Int.toNat (i))).2.1), .int .i64 ((nthR z (Int.toNat (i))).2.2.2), St' T, .int .i64 (i + 1), .int .i64 ((z.length : Int)), .int .i64 ((nthR z (Int.toNat (i))).1), St' ((nthR z (Int.toNat (i))).2.2.1), .int .i64 (((nthR z (Int.toNat (i))).2.2.1.length : Int)), .int .i64 ((nthR z (Int.toNat (i))).2.1), .int .i64 ((nthR z (Int.toNat (i))).2.2.2), St' T, .int .i64 (i + 1), .int .i64 ((z.length : Int)), .int .i64 ((nthR z (Int.toNat (i))).1), St' ((nthR z (Int.toNat (i))).2.2.1), .int .i64 (((nthR z (Int.toNat (i))).2.2.1.length : Int)), .int .i64 ((nthR z (Int.toNat (i))).2.1), .int .i64 ((nthR z (Int.toNat (i))).2.2.2), St' T, .int .i64 (i + 1), .int .i64 ((z.length : Int)), .int .i64 ((nthR z (Int.toNat (i))).1), St' ((nthR z (Int.toNat (i))).2.2.1), .int .i64 (((nthR z (Int.toNat (i))).2.2.1.length : Int)), .int .i64 ((z.length : Int))]
def roRa_0 (z : List (Int × Int × LB × Int)) (i : Int) (T : LB) : List Value := [rwG reC z]
def epRa (st : Nat × Int × LB) : LA := epRa_0
def hpRa (st : Nat × Int × LB) : LE := hpRa_0
def nuRa (z : List (Int × Int × LB × Int)) (st : Nat × Int × LB) : List Value := nuRa_0 z (st.2.1) (st.2.2)
def roRa (z : List (Int × Int × LB × Int)) (st : Nat × Int × LB) : List Value := roRa_0 z (st.2.1) (st.2.2)
theorem onRa (z : List (Int × Int × LB × Int)) (st : Nat × Int × LB) : ∀ j, (nuL (nuRa z st) j).oneCell' = true := by
  intro j
  unfold nuRa
  exact nuL_one (l := nuRa_0 z (st.2.1) (st.2.2)) rfl j
theorem ebRa (st : Nat × Int × LB) : (lfB (epRa st) && lfC keepRa) = true := by
  unfold epRa
  rfl
noncomputable def DRa (z : List (Int × Int × LB × Int)) (st : Nat × Int × LB) (X : Nat → Value) : Cx := cx (nuX (nuRa z st) (rX (roRa z st) X)) (nuX_one (onRa z st)) 0 laidE laidE_stab
def InvRa (z : List (Int × Int × LB × Int)) (st : Nat × Int × LB) : Prop := (0 ≤ (st.2.1)) ∧ ((st.2.1) ≤ (z.length : Int)) ∧ (z.length ≤ 12) ∧ (∀ q, q ∈ z → reB q) ∧ (((st.2.2).length : Int) ≤ 663 * (st.2.1)) ∧ ((st.2.2) = rbS (z.take (Int.toNat (st.2.1)))) ∧ (okC (z.take (Int.toNat (st.2.1))) = true) ∧ ((st.1) < 1)
abbrev CjRa (z : List (Int × Int × LB × Int)) (tag : Nat) (i : Int) (T : LB) : Prop := (0 ≤ i) ∧ (i ≤ (z.length : Int)) ∧ (z.length ≤ 12) ∧ (∀ q, q ∈ z → reB q) ∧ ((T.length : Int) ≤ 663 * i) ∧ (T = rbS (z.take (Int.toNat i))) ∧ (okC (z.take (Int.toNat i)) = true) ∧ (tag < 1)
theorem mkIRa (z : List (Int × Int × LB × Int)) (tag : Nat) (i : Int) (T : LB) (h : CjRa z tag i T) : InvRa z (tag, i, T) := h
theorem unIRa (z : List (Int × Int × LB × Int)) (tag : Nat) (i : Int) (T : LB) (h : InvRa z (tag, i, T)) : (0 ≤ i) ∧ (i ≤ (z.length : Int)) ∧ (z.length ≤ 12) ∧ (∀ q, q ∈ z → reB q) ∧ ((T.length : Int) ≤ 663 * i) ∧ (T = rbS (z.take (Int.toNat i))) ∧ (okC (z.take (Int.toNat i)) = true) ∧ (tag < 1) := h
def muRa (z : List (Int × Int × LB × Int)) (st : Nat × Int × LB) : Nat := (z.length - (st.2.1).toNat)
abbrev RHRa (z : List (Int × Int × LB × Int)) (E' : Cx) (ex' : Ex) (epx' : LA) (hpx' : LE) (st : Nat × Int × LB) (X : Nat → Value) : Prop := RoundH E' bodyRa keepRa 65 ex' 1 2 2 31 epRa hpRa epx' hpx' (InvRa z) (muRa z) (DRa z) st X
noncomputable abbrev RNRa_0 (h : LK) (x : Ex) (th : LA) (sg : List (Nat × Nat)) (m : Nat) (ep : LA) (hp : LE) : Bool := okRdH (code (tbl h) 3000 [] bodyRa (envOf (headOf epRa_0 keepRa) 65) ⟨lhSet hpRa_0 .leaf, 2, 0, 0⟩) x keepRa 65 31 th sg 2 m ep hp
theorem stRa_0 (z : List (Int × Int × LB × Int)) (i : Int) (T : LB) {X : Nat → Value} {h : LK} (y : Nat × Int × LB) {th : LA} {sg : List (Nat × Nat)} (ho : ∀ a' r', (a', r') ∈ h → HOk (cx (nuX (nuRa_0 z i T) (rX (roRa_0 z i T) X)) (nuX_one (nuL_one (l := nuRa_0 z i T) rfl)) 0 laidE laidE_stab) a' r') (hy : InvRa z y) (lt : muRa z y < muRa z (0, i, T)) (ht : ThOk (cx (nuX (nuRa_0 z i T) (rX (roRa_0 z i T) X)) (nuX_one (nuL_one (l := nuRa_0 z i T) rfl)) 0 laidE laidE_stab) (DRa z y X) th) (run : RNRa_0 h .normal th sg 2 (epRa y) (hpRa y) = true) : RHRa z E' x' e' h' (0, i, T) X :=
  RoundH.next (tb := tbl h) (L := []) (f := 3000) y ((tabkOk _ _).hyps ho) (LpOk.nil _) rfl hy lt ht run
theorem lvRa_0 (z : List (Int × Int × LB × Int)) (i : Int) (T : LB) {X : Nat → Value} {h : LK} {th : LA} {sg : List (Nat × Nat)} (hne : exB x' .normal = false) (ho : ∀ a' r', (a', r') ∈ h → HOk (cx (nuX (nuRa_0 z i T) (rX (roRa_0 z i T) X)) (nuX_one (nuL_one (l := nuRa_0 z i T) rfl)) 0 laidE laidE_stab) a' r') (ht : ThOk (cx (nuX (nuRa_0 z i T) (rX (roRa_0 z i T) X)) (nuX_one (nuL_one (l := nuRa_0 z i T) rfl)) 0 laidE laidE_stab) E' th) (run : RNRa_0 h x' th sg 31 e' h' = true) : RHRa z E' x' e' h' (0, i, T) X :=
  RoundH.leave (tb := tbl h) (L := []) (f := 3000) ((tabkOk _ _).hyps ho) (LpOk.nil _) rfl hne ht run
def hyRa_p0 : LK := [(.rl (.x 2000000) 4, .x 2), (.bin .lss (.x 0) (.x 2), .b true), (.el (.x 2000000) (.x 0) 4 0, .x 3), (.el (.x 2000000) (.x 0) 4 2, .x 4), (.len (.x 4), .x 5), (.bin .gtr (.x 5) (.i .i64 (.ofNat 400)), .b false), (.el (.x 2000000) (.x 0) 4 1, .x 6), (.el (.x 2000000) (.x 0) 4 3, .x 7), (.bin .geq (.x 3) (.i .i64 (.ofNat 1)), .b true), (.bin .leq (.x 3) (.i .i64 (.ofNat 255)), .b true), (.bin .geq (.x 6) (.i .i64 (.ofNat 0)), .b true), (.bin .leq (.x 6) (.i .i64 (.ofNat 65535)), .b true), (.bin .leq (.x 5) (.i .i64 (.ofNat 65535)), .b true), (.bin .geq (.x 7) (.i .i64 (.ofNat 0)), .b true), (.bin .leq (.x 7) (.i .i64 (.ofNat 255)), .b true), (.conv 5 (.x 3), .x 8), (.bin .shr (.x 6) (.i .u64 (.ofNat 8)), .x 9), (.conv 5 (.x 9), .x 10), (.conv 5 (.x 6), .x 11), (.bin .shr (.x 5) (.i .u64 (.ofNat 8)), .x 12), (.conv 5 (.x 12), .x 13), (.conv 5 (.x 5), .x 14), (.conv 5 (.x 7), .x 15), (.bytes [.i .u8 (.ofNat 1), .x 8, .x 10, .x 11, .x 13, .x 14, .x 15, .i .u8 (.ofNat 0)], .x 16), (.bin .add (.x 16) (.x 4), .x 17), (.call 19 [.s 1 0, .x 7], .x 18), (.bin .add (.x 17) (.x 18), .x 19), (.bin .add (.x 1) (.x 19), .x 20), (.bin .add (.x 0) (.i .i64 (.ofNat 1)), .x 21)]
theorem runRa_p0 : RNRa_0 hyRa_p0 .normal [(0, .x 21), (1, .x 20), (2000000, .x 2000000)] [] 2 epRa_0 hpRa_0 = true := by kernel_rfl
theorem nxRa_p0 (z : List (Int × Int × LB × Int)) (i : Int) (T : LB) (X : Nat → Value) (hI : InvRa z (0, i, T)) (h0 : i < (z.length : Int)) (h1 : ¬ (400 < ((nthR z (Int.toNat (i))).2.2.1.length : Int))) (h2 : 1 ≤ (nthR z (Int.toNat (i))).1) (h3 : (nthR z (Int.toNat (i))).1 ≤ 255) (h4 : 0 ≤ (nthR z (Int.toNat (i))).2.1) (h5 : (nthR z (Int.toNat (i))).2.1 ≤ 65535) (h7 : 0 ≤ (nthR z (Int.toNat (i))).2.2.2) (h8 : (nthR z (Int.toNat (i))).2.2.2 ≤ 255) : RHRa z E' x' e' h' (0, i, T) X := by
  obtain ⟨i0, i1, i2, i3, i4, i5, i6, it⟩ := unIRa z 0 i T hI
  have := reAt (l := z) (by assumption) (Int.toNat (i))
  refine stRa_0 z i T (h := hyRa_p0) (0, i + 1, (T ++ ([u8 1, u8 (((nthR z (Int.toNat (i))).1) % 256), u8 ((((nthR z (Int.toNat (i))).2.1) / 256) % 256), u8 (((nthR z (Int.toNat (i))).2.1) % 256), u8 ((((nthR z (Int.toNat (i))).2.2.1.length : Int) / 256) % 256), u8 (((nthR z (Int.toNat (i))).2.2.1.length : Int) % 256), u8 (((nthR z (Int.toNat (i))).2.2.2) % 256), u8 0] ++ ((nthR z (Int.toNat (i))).2.2.1 ++ (List.replicate (Int.toNat ((nthR z (Int.toNat (i))).2.2.2)) 0))))) ?_ (mkIRa z 0 (i + 1) (T ++ ([u8 1, u8 (((nthR z (Int.toNat (i))).1) % 256), u8 ((((nthR z (Int.toNat (i))).2.1) / 256) % 256), u8 (((nthR z (Int.toNat (i))).2.1) % 256), u8 ((((nthR z (Int.toNat (i))).2.2.1.length : Int) / 256) % 256), u8 (((nthR z (Int.toNat (i))).2.2.1.length : Int) % 256), u8 (((nthR z (Int.toNat (i))).2.2.2) % 256), u8 0] ++ ((nthR z (Int.toNat (i))).2.2.1 ++ (List.replicate (Int.toNat ((nthR z (Int.toNat (i))).2.2.2)) 0)))) ⟨by omega, by omega, i2, i3, by simp only [List.length_append, List.length_cons, List.length_nil, List.length_replicate]; omega, ra_y (by omega) (by omega) (by omega) i5, oc_a (by omega) (by omega) i6 (by omega), by omega⟩) (by show z.length - (i + 1).toNat < z.length - i.toNat; omega) (thXi (b := ((i + 1))) rfl rfl (by omega) (thXv (v := St' (T ++ ([u8 1, u8 (((nthR z (Int.toNat (i))).1) % 256), u8 ((((nthR z (Int.toNat (i))).2.1) / 256) % 256), u8 (((nthR z (Int.toNat (i))).2.1) % 256), u8 ((((nthR z (Int.toNat (i))).2.2.1.length : Int) / 256) % 256), u8 (((nthR z (Int.toNat (i))).2.2.1.length : Int) % 256), u8 (((nthR z (Int.toNat (i))).2.2.2) % 256), u8 0] ++ ((nthR z (Int.toNat (i))).2.2.1 ++ (List.replicate (Int.toNat ((nthR z (Int.toNat (i))).2.2.2)) 0))))) rfl rfl (thXv (v := rwG reC z) rfl rfl (thNil)))) runRa_p0
  unfold hyRa_p0
  exact hc (kRlG reC_len (isX rfl) (denX rfl) (by first | omega | (simp <;> omega))) <|
   hc (ltT rfl rfl (by omega)) <|
   hc (kElG (j := (Int.toNat (i))) (d := (0, 0, [], 0)) reC_len (by decide) (isX rfl) (isX rfl) (denX rfl) (by omega) (by omega) rfl) <|
   hc (kElG (j := (Int.toNat (i))) (d := (0, 0, [], 0)) reC_len (by decide) (isX rfl) (isX rfl) (denX rfl) (by omega) (by omega) rfl) <|
   hc (lnV rfl rfl (by omega)) <|
   hc (gtcF rfl (by omega)) <|
   hc (kElG (j := (Int.toNat (i))) (d := (0, 0, [], 0)) reC_len (by decide) (isX rfl) (isX rfl) (denX rfl) (by omega) (by omega) rfl) <|
   hc (kElG (j := (Int.toNat (i))) (d := (0, 0, [], 0)) reC_len (by decide) (isX rfl) (isX rfl) (denX rfl) (by omega) (by omega) rfl) <|
   hc (gecT rfl (by omega)) <|
   hc (lecT rfl (by omega)) <|
   hc (gecT rfl (by omega)) <|
   hc (lecT rfl (by omega)) <|
   hc (lecT rfl (by omega)) <|
   hc (gecT rfl (by omega)) <|
   hc (lecT rfl (by omega)) <|
   hc (kConv8 (isX rfl) tu5 (denX rfl) rfl) <|
   hc (kShrM 8 256 rfl (isX rfl) (isZ (m := 8) rfl) (denX rfl) rfl (by decide) (by omega) rfl) <|
   hc (kConv8 (isX rfl) tu5 (denX rfl) rfl) <|
   hc (kConv8 (isX rfl) tu5 (denX rfl) rfl) <|
   hc (kShrM 8 256 rfl (isX rfl) (isZ (m := 8) rfl) (denX rfl) rfl (by decide) (by omega) rfl) <|
   hc (kConv8 (isX rfl) tu5 (denX rfl) rfl) <|
   hc (kConv8 (isX rfl) tu5 (denX rfl) rfl) <|
   hc (kConv8 (isX rfl) tu5 (denX rfl) rfl) <|
   hc (kBytesB (bs := [u8 1, u8 (((nthR z (Int.toNat (i))).1) % 256), u8 ((((nthR z (Int.toNat (i))).2.1) / 256) % 256), u8 (((nthR z (Int.toNat (i))).2.1) % 256), u8 ((((nthR z (Int.toNat (i))).2.2.1.length : Int) / 256) % 256), u8 (((nthR z (Int.toNat (i))).2.2.1.length : Int) % 256), u8 (((nthR z (Int.toNat (i))).2.2.2) % 256), u8 0]) (.cons (isB8 (isZ (m := 1) rfl) (by omega) (by omega)) (.cons (isB8 (isX rfl) (by omega) (by omega)) (.cons (isB8 (isX rfl) (by omega) (by omega)) (.cons (isB8 (isX rfl) (by omega) (by omega)) (.cons (isB8 (isX rfl) (by omega) (by omega)) (.cons (isB8 (isX rfl) (by omega) (by omega)) (.cons (isB8 (isX rfl) (by omega) (by omega)) (.cons (isB8 (isZ (m := 0) rfl) (by omega) (by omega)) .nil)))))))) (denX rfl)) <|
   hc (kCat (isX rfl) (isX rfl) (denX rfl) (by first | rfl | (simp; done)) (by first | omega | (simp <;> omega))) <|
   hc (hokRep rfl rfl (by omega) (by omega)) <|
   hc (kCat (isX rfl) (isX rfl) (denX rfl) (by first | rfl | (simp; done)) (by first | omega | (simp <;> omega))) <|
   hc (kCat (isX rfl) (isX rfl) (denX rfl) (by first | rfl | (simp; done)) (by first | omega | (simp <;> omega))) <|
   hc (adC rfl rfl (by omega)) <|
   hnil
def hyRa_p1 : LK := [(.rl (.x 2000000) 4, .x 22), (.bin .lss (.x 0) (.x 22), .b true), (.el (.x 2000000) (.x 0) 4 0, .x 23), (.el (.x 2000000) (.x 0) 4 2, .x 24), (.len (.x 24), .x 25), (.bin .gtr (.x 25) (.i .i64 (.ofNat 400)), .b false), (.el (.x 2000000) (.x 0) 4 1, .x 26), (.el (.x 2000000) (.x 0) 4 3, .x 27), (.bin .geq (.x 23) (.i .i64 (.ofNat 1)), .b false), (.bin .add (.x 1) (.s 0 0), .x 28), (.bin .add (.x 0) (.i .i64 (.ofNat 1)), .x 29)]
theorem runRa_p1 : RNRa_0 hyRa_p1 .normal [(0, .x 29), (1, .x 28), (2000000, .x 2000000)] [] 2 epRa_0 hpRa_0 = true := by kernel_rfl
theorem nxRa_p1 (z : List (Int × Int × LB × Int)) (i : Int) (T : LB) (X : Nat → Value) (hI : InvRa z (0, i, T)) (h0 : i < (z.length : Int)) (h1 : ¬ (400 < ((nthR z (Int.toNat (i))).2.2.1.length : Int))) (h2 : ¬ (1 ≤ (nthR z (Int.toNat (i))).1)) : RHRa z E' x' e' h' (0, i, T) X := by
  obtain ⟨i0, i1, i2, i3, i4, i5, i6, it⟩ := unIRa z 0 i T hI
  have := reAt (l := z) (by assumption) (Int.toNat (i))
  refine stRa_0 z i T (h := hyRa_p1) (0, i + 1, T) ?_ (mkIRa z 0 (i + 1) T ⟨by omega, by omega, i2, i3, by omega, ra_n (by omega) (by omega) (by omega) i5, oc_a (by omega) (by omega) i6 (by omega), by omega⟩) (by show z.length - (i + 1).toNat < z.length - i.toNat; omega) (thXi (b := ((i + 1))) rfl rfl (by omega) (thXv (v := St' T) rfl rfl (thXv (v := rwG reC z) rfl rfl (thNil)))) runRa_p1
  unfold hyRa_p1
  exact hc (kRlG reC_len (isX rfl) (denX rfl) (by first | omega | (simp <;> omega))) <|
   hc (ltT rfl rfl (by omega)) <|
   hc (kElG (j := (Int.toNat (i))) (d := (0, 0, [], 0)) reC_len (by decide) (isX rfl) (isX rfl) (denX rfl) (by omega) (by omega) rfl) <|
   hc (kElG (j := (Int.toNat (i))) (d := (0, 0, [], 0)) reC_len (by decide) (isX rfl) (isX rfl) (denX rfl) (by omega) (by omega) rfl) <|
   hc (lnV rfl rfl (by omega)) <|
   hc (gtcF rfl (by omega)) <|
   hc (kElG (j := (Int.toNat (i))) (d := (0, 0, [], 0)) reC_len (by decide) (isX rfl) (isX rfl) (denX rfl) (by omega) (by omega) rfl) <|
   hc (kElG (j := (Int.toNat (i))) (d := (0, 0, [], 0)) reC_len (by decide) (isX rfl) (isX rfl) (denX rfl) (by omega) (by omega) rfl) <|
   hc (gecF rfl (by omega)) <|
   hc (kCat (isX rfl) (isSx (l := []) 0 0 rfl) (denX rfl) (List.append_nil _) (by simp only [List.length_nil]; omega)) <|
   hc (adC rfl rfl (by omega)) <|
   hnil
def hyRa_p2 : LK := [(.rl (.x 2000000) 4, .x 30), (.bin .lss (.x 0) (.x 30), .b true), (.el (.x 2000000) (.x 0) 4 0, .x 31), (.el (.x 2000000) (.x 0) 4 2, .x 32), (.len (.x 32), .x 33), (.bin .gtr (.x 33) (.i .i64 (.ofNat 400)), .b false), (.el (.x 2000000) (.x 0) 4 1, .x 34), (.el (.x 2000000) (.x 0) 4 3, .x 35), (.bin .geq (.x 31) (.i .i64 (.ofNat 1)), .b true), (.bin .leq (.x 31) (.i .i64 (.ofNat 255)), .b false), (.bin .add (.x 1) (.s 0 0), .x 36), (.bin .add (.x 0) (.i .i64 (.ofNat 1)), .x 37)]
theorem runRa_p2 : RNRa_0 hyRa_p2 .normal [(0, .x 37), (1, .x 36), (2000000, .x 2000000)] [] 2 epRa_0 hpRa_0 = true := by kernel_rfl
theorem nxRa_p2 (z : List (Int × Int × LB × Int)) (i : Int) (T : LB) (X : Nat → Value) (hI : InvRa z (0, i, T)) (h0 : i < (z.length : Int)) (h1 : ¬ (400 < ((nthR z (Int.toNat (i))).2.2.1.length : Int))) (h2 : 1 ≤ (nthR z (Int.toNat (i))).1) (h3 : ¬ ((nthR z (Int.toNat (i))).1 ≤ 255)) : RHRa z E' x' e' h' (0, i, T) X := by
  obtain ⟨i0, i1, i2, i3, i4, i5, i6, it⟩ := unIRa z 0 i T hI
  have := reAt (l := z) (by assumption) (Int.toNat (i))
  refine stRa_0 z i T (h := hyRa_p2) (0, i + 1, T) ?_ (mkIRa z 0 (i + 1) T ⟨by omega, by omega, i2, i3, by omega, ra_n (by omega) (by omega) (by omega) i5, oc_a (by omega) (by omega) i6 (by omega), by omega⟩) (by show z.length - (i + 1).toNat < z.length - i.toNat; omega) (thXi (b := ((i + 1))) rfl rfl (by omega) (thXv (v := St' T) rfl rfl (thXv (v := rwG reC z) rfl rfl (thNil)))) runRa_p2
  unfold hyRa_p2
  exact hc (kRlG reC_len (isX rfl) (denX rfl) (by first | omega | (simp <;> omega))) <|
   hc (ltT rfl rfl (by omega)) <|
   hc (kElG (j := (Int.toNat (i))) (d := (0, 0, [], 0)) reC_len (by decide) (isX rfl) (isX rfl) (denX rfl) (by omega) (by omega) rfl) <|
   hc (kElG (j := (Int.toNat (i))) (d := (0, 0, [], 0)) reC_len (by decide) (isX rfl) (isX rfl) (denX rfl) (by omega) (by omega) rfl) <|
   hc (lnV rfl rfl (by omega)) <|
   hc (gtcF rfl (by omega)) <|
   hc (kElG (j := (Int.toNat (i))) (d := (0, 0, [], 0)) reC_len (by decide) (isX rfl) (isX rfl) (denX rfl) (by omega) (by omega) rfl) <|
   hc (kElG (j := (Int.toNat (i))) (d := (0, 0, [], 0)) reC_len (by decide) (isX rfl) (isX rfl) (denX rfl) (by omega) (by omega) rfl) <|
   hc (gecT rfl (by omega)) <|
   hc (lecF rfl (by omega)) <|
   hc (kCat (isX rfl) (isSx (l := []) 0 0 rfl) (denX rfl) (List.append_nil _) (by simp only [List.length_nil]; omega)) <|
   hc (adC rfl rfl (by omega)) <|
   hnil
def hyRa_p3 : LK := [(.rl (.x 2000000) 4, .x 38), (.bin .lss (.x 0) (.x 38), .b true), (.el (.x 2000000) (.x 0) 4 0, .x 39), (.el (.x 2000000) (.x 0) 4 2, .x 40), (.len (.x 40), .x 41), (.bin .gtr (.x 41) (.i .i64 (.ofNat 400)), .b false), (.el (.x 2000000) (.x 0) 4 1, .x 42), (.el (.x 2000000) (.x 0) 4 3, .x 43), (.bin .geq (.x 39) (.i .i64 (.ofNat 1)), .b true), (.bin .leq (.x 39) (.i .i64 (.ofNat 255)), .b true), (.bin .geq (.x 42) (.i .i64 (.ofNat 0)), .b false), (.bin .add (.x 1) (.s 0 0), .x 44), (.bin .add (.x 0) (.i .i64 (.ofNat 1)), .x 45)]
theorem runRa_p3 : RNRa_0 hyRa_p3 .normal [(0, .x 45), (1, .x 44), (2000000, .x 2000000)] [] 2 epRa_0 hpRa_0 = true := by kernel_rfl
theorem nxRa_p3 (z : List (Int × Int × LB × Int)) (i : Int) (T : LB) (X : Nat → Value) (hI : InvRa z (0, i, T)) (h0 : i < (z.length : Int)) (h1 : ¬ (400 < ((nthR z (Int.toNat (i))).2.2.1.length : Int))) (h2 : 1 ≤ (nthR z (Int.toNat (i))).1) (h3 : (nthR z (Int.toNat (i))).1 ≤ 255) (h4 : ¬ (0 ≤ (nthR z (Int.toNat (i))).2.1)) : RHRa z E' x' e' h' (0, i, T) X := by
  obtain ⟨i0, i1, i2, i3, i4, i5, i6, it⟩ := unIRa z 0 i T hI
  have := reAt (l := z) (by assumption) (Int.toNat (i))
  refine stRa_0 z i T (h := hyRa_p3) (0, i + 1, T) ?_ (mkIRa z 0 (i + 1) T ⟨by omega, by omega, i2, i3, by omega, ra_n (by omega) (by omega) (by omega) i5, oc_a (by omega) (by omega) i6 (by omega), by omega⟩) (by show z.length - (i + 1).toNat < z.length - i.toNat; omega) (thXi (b := ((i + 1))) rfl rfl (by omega) (thXv (v := St' T) rfl rfl (thXv (v := rwG reC z) rfl rfl (thNil)))) runRa_p3
  unfold hyRa_p3
  exact hc (kRlG reC_len (isX rfl) (denX rfl) (by first | omega | (simp <;> omega))) <|
   hc (ltT rfl rfl (by omega)) <|
   hc (kElG (j := (Int.toNat (i))) (d := (0, 0, [], 0)) reC_len (by decide) (isX rfl) (isX rfl) (denX rfl) (by omega) (by omega) rfl) <|
   hc (kElG (j := (Int.toNat (i))) (d := (0, 0, [], 0)) reC_len (by decide) (isX rfl) (isX rfl) (denX rfl) (by omega) (by omega) rfl) <|
   hc (lnV rfl rfl (by omega)) <|
   hc (gtcF rfl (by omega)) <|
   hc (kElG (j := (Int.toNat (i))) (d := (0, 0, [], 0)) reC_len (by decide) (isX rfl) (isX rfl) (denX rfl) (by omega) (by omega) rfl) <|
   hc (kElG (j := (Int.toNat (i))) (d := (0, 0, [], 0)) reC_len (by decide) (isX rfl) (isX rfl) (denX rfl) (by omega) (by omega) rfl) <|
   hc (gecT rfl (by omega)) <|
   hc (lecT rfl (by omega)) <|
   hc (gecF rfl (by omega)) <|
   hc (kCat (isX rfl) (isSx (l := []) 0 0 rfl) (denX rfl) (List.append_nil _) (by simp only [List.length_nil]; omega)) <|
   hc (adC rfl rfl (by omega)) <|
   hnil
def hyRa_p4 : LK := [(.rl (.x 2000000) 4, .x 46), (.bin .lss (.x 0) (.x 46), .b true), (.el (.x 2000000) (.x 0) 4 0, .x 47), (.el (.x 2000000) (.x 0) 4 2, .x 48), (.len (.x 48), .x 49), (.bin .gtr (.x 49) (.i .i64 (.ofNat 400)), .b false), (.el (.x 2000000) (.x 0) 4 1, .x 50), (.el (.x 2000000) (.x 0) 4 3, .x 51), (.bin .geq (.x 47) (.i .i64 (.ofNat 1)), .b true), (.bin .leq (.x 47) (.i .i64 (.ofNat 255)), .b true), (.bin .geq (.x 50) (.i .i64 (.ofNat 0)), .b true), (.bin .leq (.x 50) (.i .i64 (.ofNat 65535)), .b false), (.bin .add (.x 1) (.s 0 0), .x 52), (.bin .add (.x 0) (.i .i64 (.ofNat 1)), .x 53)]
theorem runRa_p4 : RNRa_0 hyRa_p4 .normal [(0, .x 53), (1, .x 52), (2000000, .x 2000000)] [] 2 epRa_0 hpRa_0 = true := by kernel_rfl
theorem nxRa_p4 (z : List (Int × Int × LB × Int)) (i : Int) (T : LB) (X : Nat → Value) (hI : InvRa z (0, i, T)) (h0 : i < (z.length : Int)) (h1 : ¬ (400 < ((nthR z (Int.toNat (i))).2.2.1.length : Int))) (h2 : 1 ≤ (nthR z (Int.toNat (i))).1) (h3 : (nthR z (Int.toNat (i))).1 ≤ 255) (h4 : 0 ≤ (nthR z (Int.toNat (i))).2.1) (h5 : ¬ ((nthR z (Int.toNat (i))).2.1 ≤ 65535)) : RHRa z E' x' e' h' (0, i, T) X := by
  obtain ⟨i0, i1, i2, i3, i4, i5, i6, it⟩ := unIRa z 0 i T hI
  have := reAt (l := z) (by assumption) (Int.toNat (i))
  refine stRa_0 z i T (h := hyRa_p4) (0, i + 1, T) ?_ (mkIRa z 0 (i + 1) T ⟨by omega, by omega, i2, i3, by omega, ra_n (by omega) (by omega) (by omega) i5, oc_a (by omega) (by omega) i6 (by omega), by omega⟩) (by show z.length - (i + 1).toNat < z.length - i.toNat; omega) (thXi (b := ((i + 1))) rfl rfl (by omega) (thXv (v := St' T) rfl rfl (thXv (v := rwG reC z) rfl rfl (thNil)))) runRa_p4
  unfold hyRa_p4
  exact hc (kRlG reC_len (isX rfl) (denX rfl) (by first | omega | (simp <;> omega))) <|
   hc (ltT rfl rfl (by omega)) <|
   hc (kElG (j := (Int.toNat (i))) (d := (0, 0, [], 0)) reC_len (by decide) (isX rfl) (isX rfl) (denX rfl) (by omega) (by omega) rfl) <|
   hc (kElG (j := (Int.toNat (i))) (d := (0, 0, [], 0)) reC_len (by decide) (isX rfl) (isX rfl) (denX rfl) (by omega) (by omega) rfl) <|
   hc (lnV rfl rfl (by omega)) <|
   hc (gtcF rfl (by omega)) <|
   hc (kElG (j := (Int.toNat (i))) (d := (0, 0, [], 0)) reC_len (by decide) (isX rfl) (isX rfl) (denX rfl) (by omega) (by omega) rfl) <|
   hc (kElG (j := (Int.toNat (i))) (d := (0, 0, [], 0)) reC_len (by decide) (isX rfl) (isX rfl) (denX rfl) (by omega) (by omega) rfl) <|
   hc (gecT rfl (by omega)) <|
   hc (lecT rfl (by omega)) <|
   hc (gecT rfl (by omega)) <|
   hc (lecF rfl (by omega)) <|
   hc (kCat (isX rfl) (isSx (l := []) 0 0 rfl) (denX rfl) (List.append_nil _) (by simp only [List.length_nil]; omega)) <|
   hc (adC rfl rfl (by omega)) <|
   hnil
def hyRa_p5 : LK := [(.rl (.x 2000000) 4, .x 54), (.bin .lss (.x 0) (.x 54), .b true), (.el (.x 2000000) (.x 0) 4 0, .x 55), (.el (.x 2000000) (.x 0) 4 2, .x 56), (.len (.x 56), .x 57), (.bin .gtr (.x 57) (.i .i64 (.ofNat 400)), .b false), (.el (.x 2000000) (.x 0) 4 1, .x 58), (.el (.x 2000000) (.x 0) 4 3, .x 59), (.bin .geq (.x 55) (.i .i64 (.ofNat 1)), .b true), (.bin .leq (.x 55) (.i .i64 (.ofNat 255)), .b true), (.bin .geq (.x 58) (.i .i64 (.ofNat 0)), .b true), (.bin .leq (.x 58) (.i .i64 (.ofNat 65535)), .b true), (.bin .leq (.x 57) (.i .i64 (.ofNat 65535)), .b true), (.bin .geq (.x 59) (.i .i64 (.ofNat 0)), .b false), (.bin .add (.x 1) (.s 0 0), .x 60), (.bin .add (.x 0) (.i .i64 (.ofNat 1)), .x 61)]
theorem runRa_p5 : RNRa_0 hyRa_p5 .normal [(0, .x 61), (1, .x 60), (2000000, .x 2000000)] [] 2 epRa_0 hpRa_0 = true := by kernel_rfl
theorem nxRa_p5 (z : List (Int × Int × LB × Int)) (i : Int) (T : LB) (X : Nat → Value) (hI : InvRa z (0, i, T)) (h0 : i < (z.length : Int)) (h1 : ¬ (400 < ((nthR z (Int.toNat (i))).2.2.1.length : Int))) (h2 : 1 ≤ (nthR z (Int.toNat (i))).1) (h3 : (nthR z (Int.toNat (i))).1 ≤ 255) (h4 : 0 ≤ (nthR z (Int.toNat (i))).2.1) (h5 : (nthR z (Int.toNat (i))).2.1 ≤ 65535) (h7 : ¬ (0 ≤ (nthR z (Int.toNat (i))).2.2.2)) : RHRa z E' x' e' h' (0, i, T) X := by
  obtain ⟨i0, i1, i2, i3, i4, i5, i6, it⟩ := unIRa z 0 i T hI
  have := reAt (l := z) (by assumption) (Int.toNat (i))
  refine stRa_0 z i T (h := hyRa_p5) (0, i + 1, T) ?_ (mkIRa z 0 (i + 1) T ⟨by omega, by omega, i2, i3, by omega, ra_n (by omega) (by omega) (by omega) i5, oc_a (by omega) (by omega) i6 (by omega), by omega⟩) (by show z.length - (i + 1).toNat < z.length - i.toNat; omega) (thXi (b := ((i + 1))) rfl rfl (by omega) (thXv (v := St' T) rfl rfl (thXv (v := rwG reC z) rfl rfl (thNil)))) runRa_p5
  unfold hyRa_p5
  exact hc (kRlG reC_len (isX rfl) (denX rfl) (by first | omega | (simp <;> omega))) <|
   hc (ltT rfl rfl (by omega)) <|
   hc (kElG (j := (Int.toNat (i))) (d := (0, 0, [], 0)) reC_len (by decide) (isX rfl) (isX rfl) (denX rfl) (by omega) (by omega) rfl) <|
   hc (kElG (j := (Int.toNat (i))) (d := (0, 0, [], 0)) reC_len (by decide) (isX rfl) (isX rfl) (denX rfl) (by omega) (by omega) rfl) <|
   hc (lnV rfl rfl (by omega)) <|
   hc (gtcF rfl (by omega)) <|
   hc (kElG (j := (Int.toNat (i))) (d := (0, 0, [], 0)) reC_len (by decide) (isX rfl) (isX rfl) (denX rfl) (by omega) (by omega) rfl) <|
   hc (kElG (j := (Int.toNat (i))) (d := (0, 0, [], 0)) reC_len (by decide) (isX rfl) (isX rfl) (denX rfl) (by omega) (by omega) rfl) <|
   hc (gecT rfl (by omega)) <|
   hc (lecT rfl (by omega)) <|
   hc (gecT rfl (by omega)) <|
   hc (lecT rfl (by omega)) <|
   hc (lecT rfl (by omega)) <|
   hc (gecF rfl (by omega)) <|
   hc (kCat (isX rfl) (isSx (l := []) 0 0 rfl) (denX rfl) (List.append_nil _) (by simp only [List.length_nil]; omega)) <|
   hc (adC rfl rfl (by omega)) <|
   hnil
def hyRa_p6 : LK := [(.rl (.x 2000000) 4, .x 62), (.bin .lss (.x 0) (.x 62), .b true), (.el (.x 2000000) (.x 0) 4 0, .x 63), (.el (.x 2000000) (.x 0) 4 2, .x 64), (.len (.x 64), .x 65), (.bin .gtr (.x 65) (.i .i64 (.ofNat 400)), .b false), (.el (.x 2000000) (.x 0) 4 1, .x 66), (.el (.x 2000000) (.x 0) 4 3, .x 67), (.bin .geq (.x 63) (.i .i64 (.ofNat 1)), .b true), (.bin .leq (.x 63) (.i .i64 (.ofNat 255)), .b true), (.bin .geq (.x 66) (.i .i64 (.ofNat 0)), .b true), (.bin .leq (.x 66) (.i .i64 (.ofNat 65535)), .b true), (.bin .leq (.x 65) (.i .i64 (.ofNat 65535)), .b true), (.bin .geq (.x 67) (.i .i64 (.ofNat 0)), .b true), (.bin .leq (.x 67) (.i .i64 (.ofNat 255)), .b false), (.bin .add (.x 1) (.s 0 0), .x 68), (.bin .add (.x 0) (.i .i64 (.ofNat 1)), .x 69)]
theorem runRa_p6 : RNRa_0 hyRa_p6 .normal [(0, .x 69), (1, .x 68), (2000000, .x 2000000)] [] 2 epRa_0 hpRa_0 = true := by kernel_rfl
theorem nxRa_p6 (z : List (Int × Int × LB × Int)) (i : Int) (T : LB) (X : Nat → Value) (hI : InvRa z (0, i, T)) (h0 : i < (z.length : Int)) (h1 : ¬ (400 < ((nthR z (Int.toNat (i))).2.2.1.length : Int))) (h2 : 1 ≤ (nthR z (Int.toNat (i))).1) (h3 : (nthR z (Int.toNat (i))).1 ≤ 255) (h4 : 0 ≤ (nthR z (Int.toNat (i))).2.1) (h5 : (nthR z (Int.toNat (i))).2.1 ≤ 65535) (h7 : 0 ≤ (nthR z (Int.toNat (i))).2.2.2) (h8 : ¬ ((nthR z (Int.toNat (i))).2.2.2 ≤ 255)) : RHRa z E' x' e' h' (0, i, T) X := by
  obtain ⟨i0, i1, i2, i3, i4, i5, i6, it⟩ := unIRa z 0 i T hI
  have := reAt (l := z) (by assumption) (Int.toNat (i))
  refine stRa_0 z i T (h := hyRa_p6) (0, i + 1, T) ?_ (mkIRa z 0 (i + 1) T ⟨by omega, by omega, i2, i3, by omega, ra_n (by omega) (by omega) (by omega) i5, oc_a (by omega) (by omega) i6 (by omega), by omega⟩) (by show z.length - (i + 1).toNat < z.length - i.toNat; omega) (thXi (b := ((i + 1))) rfl rfl (by omega) (thXv (v := St' T) rfl rfl (thXv (v := rwG reC z) rfl rfl (thNil)))) runRa_p6
  unfold hyRa_p6
  exact hc (kRlG reC_len (isX rfl) (denX rfl) (by first | omega | (simp <;> omega))) <|
   hc (ltT rfl rfl (by omega)) <|
   hc (kElG (j := (Int.toNat (i))) (d := (0, 0, [], 0)) reC_len (by decide) (isX rfl) (isX rfl) (denX rfl) (by omega) (by omega) rfl) <|
   hc (kElG (j := (Int.toNat (i))) (d := (0, 0, [], 0)) reC_len (by decide) (isX rfl) (isX rfl) (denX rfl) (by omega) (by omega) rfl) <|
   hc (lnV rfl rfl (by omega)) <|
   hc (gtcF rfl (by omega)) <|
   hc (kElG (j := (Int.toNat (i))) (d := (0, 0, [], 0)) reC_len (by decide) (isX rfl) (isX rfl) (denX rfl) (by omega) (by omega) rfl) <|
   hc (kElG (j := (Int.toNat (i))) (d := (0, 0, [], 0)) reC_len (by decide) (isX rfl) (isX rfl) (denX rfl) (by omega) (by omega) rfl) <|
   hc (gecT rfl (by omega)) <|
   hc (lecT rfl (by omega)) <|
   hc (gecT rfl (by omega)) <|
   hc (lecT rfl (by omega)) <|
   hc (lecT rfl (by omega)) <|
   hc (gecT rfl (by omega)) <|
   hc (lecF rfl (by omega)) <|
   hc (kCat (isX rfl) (isSx (l := []) 0 0 rfl) (denX rfl) (List.append_nil _) (by simp only [List.length_nil]; omega)) <|
   hc (adC rfl rfl (by omega)) <|
   hnil
def hyRa_p7 : LK := [(.rl (.x 2000000) 4, .x 70), (.bin .lss (.x 0) (.x 70), .b true), (.el (.x 2000000) (.x 0) 4 0, .x 71), (.el (.x 2000000) (.x 0) 4 2, .x 72), (.len (.x 72), .x 73), (.bin .gtr (.x 73) (.i .i64 (.ofNat 400)), .b true)]
theorem runRa_p7 : RNRa_0 hyRa_p7 .ret [(2000000, .x 2000000)] [] 31 [(2, .b true)] [(1, .r 2000000 25 4 true)] = true := by kernel_rfl
def hyRa_p8 : LK := [(.rl (.x 2000000) 4, .x 74), (.bin .lss (.x 0) (.x 74), .b false)]
theorem runRa_p8 : RNRa_0 hyRa_p8 (.exit 0) [(0, .x 1), (2000000, .x 2000000)] [] 31 [(0, .sr 1), (3, .x 0)] [(1, .r 2000000 25 4 true)] = true := by kernel_rfl
def nuERa_0 (z : List (Int × Int × LB × Int)) : List Value := [St' (rbS z)]
def roERa_0 (z : List (Int × Int × LB × Int)) : List Value := [rwG reC z]
noncomputable def ERa_0 (z : List (Int × Int × LB × Int)) : Cx := cx (nuX (nuERa_0 z) (rX (roERa_0 z) (fun _ => .bool true))) (nuX_one (nuL_one (l := nuERa_0 z) rfl)) 0 laidE laidE_stab
theorem roundsRa_0 (z : List (Int × Int × LB × Int)) (x0 : okC z = true) (st : Nat × Int × LB) (X : Nat → Value) (hI : InvRa z st) : RHRa z (ERa_0 z) (.exit 0) [(0, .sr 1), (3, .x 0)] [(1, .r 2000000 25 4 true)] st X := by
  obtain ⟨tag, i, T⟩ := st
  have hI0 := hI
  obtain ⟨i0, i1, i2, i3, i4, i5, i6, it⟩ := unIRa z tag i T hI
  obtain rfl : tag = 0 := by omega
  skip
  by_cases h0 : i < (z.length : Int)
  · by_cases h1 : 400 < ((nthR z (Int.toNat (i))).2.2.1.length : Int)
    · exfalso; have hC := oc_at (by omega) (by omega) x0; omega
    · by_cases h2 : 1 ≤ (nthR z (Int.toNat (i))).1
      · by_cases h3 : (nthR z (Int.toNat (i))).1 ≤ 255
        · by_cases h4 : 0 ≤ (nthR z (Int.toNat (i))).2.1
          · by_cases h5 : (nthR z (Int.toNat (i))).2.1 ≤ 65535
            · by_cases h7 : 0 ≤ (nthR z (Int.toNat (i))).2.2.2
              · by_cases h8 : (nthR z (Int.toNat (i))).2.2.2 ≤ 255
                · exact nxRa_p0 z i T X hI0 h0 h1 h2 h3 h4 h5 h7 h8
                · exact nxRa_p6 z i T X hI0 h0 h1 h2 h3 h4 h5 h7 h8
              · exact nxRa_p5 z i T X hI0 h0 h1 h2 h3 h4 h5 h7
            · exact nxRa_p4 z i T X hI0 h0 h1 h2 h3 h4 h5
          · exact nxRa_p3 z i T X hI0 h0 h1 h2 h3 h4
        · exact nxRa_p2 z i T X hI0 h0 h1 h2 h3
      · exact nxRa_p1 z i T X hI0 h0 h1 h2
  · skip
    refine lvRa_0 z i T (h := hyRa_p8) rfl ?_ (thXe (v := St' T) (u := St' (rbS z)) rfl rfl (congrArg (fun l => St' l) (ra_x (by omega) (by omega) i5)) (thXv (v := rwG reC z) rfl rfl (thNil))) runRa_p8
    unfold hyRa_p8
    exact hc (kRlG reC_len (isX rfl) (denX rfl) (by first | omega | (simp <;> omega))) <|
     hc (ltF rfl rfl (by omega)) <|
     hnil
theorem lfOkRa_0 {l : LF} {h : LH} (z : List (Int × Int × LB × Int)) (x0 : okC z = true) (st : Nat × Int × LB) (hI : InvRa z st) (hl : l.hp = some h) (hs : lfSame l h 65 keepRa (.exit 0) 1 2 31 = true) {th0 : LA} {sg0 : List (Nat × Nat)} (hth0 : ∀ X, ThOk (cx nu one 0 laidE laidE_stab) (DRa z st X) th0) (h0 : startOk l h 65 2 2 th0 sg0 (epRa st) (hpRa st) = true) {thx : LA} (hthx : ThOk (ERa_0 z) (cx nu one 0 laidE laidE_stab) thx) (hx : exitOk l h 65 2 31 thx [(0, .sr 1), (3, .x 0)] [(1, .r 2000000 25 4 true)] = true) : LfOk (cx nu one 0 laidE laidE_stab) bodyRa l :=
  lfOkX (E := ERa_0 z) (InvRa z) (muRa z) (DRa z) (fun _ _ => rfl) (fun _ _ => rfl) (fun _ _ => rfl) (fun st X t ht => nuX_keep.trans (rX_keep ((by decide : ∀ t, t ∈ keepRa → t < 1000000) t ht))) rfl rfl rfl hl hs ebRa rfl rfl st hI hth0 h0 hthx hx (roundsRa_0 z x0)
def nuERa_1 (z : List (Int × Int × LB × Int)) : List Value := []
def roERa_1 (z : List (Int × Int × LB × Int)) : List Value := [rwG reC z]
noncomputable def ERa_1 (z : List (Int × Int × LB × Int)) : Cx := cx (nuX (nuERa_1 z) (rX (roERa_1 z) (fun _ => .bool true))) (nuX_one (nuL_one (l := nuERa_1 z) rfl)) 0 laidE laidE_stab
theorem roundsRa_1 (z : List (Int × Int × LB × Int)) (x0 : okC z = false) (st : Nat × Int × LB) (X : Nat → Value) (hI : InvRa z st) : RHRa z (ERa_1 z) .ret [(2, .b true)] [(1, .r 2000000 25 4 true)] st X := by
  obtain ⟨tag, i, T⟩ := st
  have hI0 := hI
  obtain ⟨i0, i1, i2, i3, i4, i5, i6, it⟩ := unIRa z tag i T hI
  obtain rfl : tag = 0 := by omega
  skip
  by_cases h0 : i < (z.length : Int)
  · by_cases h1 : 400 < ((nthR z (Int.toNat (i))).2.2.1.length : Int)
    · skip
      have := reAt (l := z) (by assumption) (Int.toNat (i))
      refine lvRa_0 z i T (h := hyRa_p7) rfl ?_ (thXv (v := rwG reC z) rfl rfl (thNil)) runRa_p7
      unfold hyRa_p7
      exact hc (kRlG reC_len (isX rfl) (denX rfl) (by first | omega | (simp <;> omega))) <|
       hc (ltT rfl rfl (by omega)) <|
       hc (kElG (j := (Int.toNat (i))) (d := (0, 0, [], 0)) reC_len (by decide) (isX rfl) (isX rfl) (denX rfl) (by omega) (by omega) rfl) <|
       hc (kElG (j := (Int.toNat (i))) (d := (0, 0, [], 0)) reC_len (by decide) (isX rfl) (isX rfl) (denX rfl) (by omega) (by omega) rfl) <|
       hc (lnV rfl rfl (by omega)) <|
       hc (gtcT rfl (by omega)) <|
       hnil
    · by_cases h2 : 1 ≤ (nthR z (Int.toNat (i))).1
      · by_cases h3 : (nthR z (Int.toNat (i))).1 ≤ 255
        · by_cases h4 : 0 ≤ (nthR z (Int.toNat (i))).2.1
          · by_cases h5 : (nthR z (Int.toNat (i))).2.1 ≤ 65535
            · by_cases h7 : 0 ≤ (nthR z (Int.toNat (i))).2.2.2
              · by_cases h8 : (nthR z (Int.toNat (i))).2.2.2 ≤ 255
                · exact nxRa_p0 z i T X hI0 h0 h1 h2 h3 h4 h5 h7 h8
                · exact nxRa_p6 z i T X hI0 h0 h1 h2 h3 h4 h5 h7 h8
              · exact nxRa_p5 z i T X hI0 h0 h1 h2 h3 h4 h5 h7
            · exact nxRa_p4 z i T X hI0 h0 h1 h2 h3 h4 h5
          · exact nxRa_p3 z i T X hI0 h0 h1 h2 h3 h4
        · exact nxRa_p2 z i T X hI0 h0 h1 h2 h3
      · exact nxRa_p1 z i T X hI0 h0 h1 h2
  · exfalso; have hC := oc_x (by omega) (by omega) i6; rw [x0] at hC; cases hC
theorem lfOkRa_1 {l : LF} {h : LH} (z : List (Int × Int × LB × Int)) (x0 : okC z = false) (st : Nat × Int × LB) (hI : InvRa z st) (hl : l.hp = some h) (hs : lfSame l h 65 keepRa .ret 1 2 31 = true) {th0 : LA} {sg0 : List (Nat × Nat)} (hth0 : ∀ X, ThOk (cx nu one 0 laidE laidE_stab) (DRa z st X) th0) (h0 : startOk l h 65 2 2 th0 sg0 (epRa st) (hpRa st) = true) {thx : LA} (hthx : ThOk (ERa_1 z) (cx nu one 0 laidE laidE_stab) thx) (hx : exitOk l h 65 2 31 thx [(2, .b true)] [(1, .r 2000000 25 4 true)] = true) : LfOk (cx nu one 0 laidE laidE_stab) bodyRa l :=
  lfOkX (E := ERa_1 z) (InvRa z) (muRa z) (DRa z) (fun _ _ => rfl) (fun _ _ => rfl) (fun _ _ => rfl) (fun st X t ht => nuX_keep.trans (rX_keep ((by decide : ∀ t, t ∈ keepRa → t < 1000000) t ht))) rfl rfl rfl hl hs ebRa rfl rfl st hI hth0 h0 hthx hx (roundsRa_1 z x0)
noncomputable def bodyRb : Code := loopNo (Try.f3.body.getD .skip) 1
theorem keyRb : oneKey (loopsOf (Try.f3.body.getD .skip)) 13 1 0 = true := by kernel_rfl
def keepRb : List Nat := []
def epRb_0 : LA := [(0, .sr 1), (3, .x 1), (5, .x 0)]
def hpRb_0 : LE := [(1, .r 2000000 25 4 true)]
def nuRb_0 (z : List (Int × Int × LB × Int)) (i : Int) : List Value := [.int .i64 (i), St' (rbS (z.drop (Int.toNat i))), .int .i64 ((z.length : Int)), .int .i64 ((nthR z (Int.toNat (i))).1), .int .i64 ((nthR z (Int.toNat (i))).2.1), St' ((nthR z (Int.toNat (i))).2.2.1), .int .i64 ((nthR z (Int.toNat (i))).2.2.2), .int .i64 (((nthR z (Int.toNat (i))).2.2.1.length : Int)), .int .i64 (((nthR z (Int.toNat (i))).2.2.1.length : Int) + ((rbS (z.drop (Int.toNat (i + 1)))).length : Int) + ((nthR z (Int.toNat (i))).2.2.2) + 8), .int .u8 ((((nthR z (Int.toNat (i))).2.2.1.length : Int) / 256) % 256), .int .i64 (((((nthR z (Int.toNat (i))).2.2.1.length : Int) / 256) % 256)), .int .i64 (((((nthR z (Int.toNat (i))).2.2.1.length : Int) / 256) % 256) * 256), .int .i64 (((((nthR z (Int.toNat (i))).2.2.1.length : Int) / 256) % 256) * 256 + 8), .int .u8 (((nthR z (Int.toNat (i))).2.2.1.length : Int) % 256), .int .i64 ((((nthR z (Int.toNat (i))).2.2.1.length : Int) % 256)), .int .i64 (((nthR z (Int.toNat (i))).2.2.1.length : Int) + 8), .int .u8 (((nthR z (Int.toNat (i))).2.2.2) % 256), .int .i64 ((((nthR z (Int.toNat (i))).2.2.2) % 256)), .int .i64 (((nthR z (Int.toNat (i))).2.2.1.length : Int) + ((nthR z (Int.toNat (i))).2.2.2) + 8), .int .u8 (((nthR z (Int.toNat (i))).1) % 256), .int .i64 ((((nthR z (Int.toNat (i))).1) % 256)), .int .u8 ((((nthR z (Int.toNat (i))).2.1) / 256) % 256), .int .i64 (((((nthR z (Int.toNat (i))).2.1) / 256) % 256)), .int .i64 (((((nthR z (Int.toNat (i))).2.1) / 256) % 256) * 256), .int .u8 (((nthR z (Int.toNat (i))).2.1) % 256), .int .i64 ((((nthR z (Int.toNat (i))).2.1) % 256)), .int .i64 (((nthR z (Int.toNat (i))).2.1)), .int .i64 (((nthR z (Int.toNat (i))).2.2.1.length : Int) + 8), St' ((nthR z (Int.toNat (i))).2.2.1), St' (rbS (z.drop (Int.toNat (i + 1)))), .int .i64 (i + 1), .int .i64 ((z.length : Int)), .int .i64 ((nthR z (Int.toNat (i))).1), .int .i64 ((nthR z (Int.toNat (i))).2.1), St' ((nthR z (Int.toNat (i))).2.2.1), .int .i64 ((nthR z (Int.toNat (i))).2.2.2), .int .i64 (i + 1), .int .i64 ((z.length : Int)), .int .i64 ((nthR z (Int.toNat (i))).1), .int .i64 ((nthR z (Int.toNat (i))).2.1), St' ((nthR z (Int.toNat (i))).2.2.1), .int .i64 ((nthR z (Int.toNat (i))).2.2.2), .int .i64 (i + 1), .int .i64 ((z.length : Int)), .int .i64 ((nthR z (Int.toNat (i))).1), .int .i64 ((nthR z (Int.toNat (i))).2.1), St' ((nthR z (Int.toNat (i))).2.2.1), .int .i64 ((nthR z (Int.toNat (i))).2.2.2), .int .i64 (i + 1), .int .i64 ((z.length : Int)), .int .i64 ((nthR z (Int.toNat (i))).1), .int .i64 ((nthR z (Int.toNat (i))).2.1), St' ((nthR z (Int.toNat (i))).2.2.1), .int .i64 ((nthR z (Int.toNat (i))).2.2.2), .int .i64 (i + 1), .int .i64 ((z.length : Int)), .int .i64 ((nthR z (Int.toNat (i))).1), .int .i64 ((nthR z (Int.toNat (i))).2.1), St' ((nthR z (Int.toNat (i))).2.2.1), .int .i64 ((nthR z (Int.toNat (i))).2.2.2), .int .i64 (((nthR z (Int.toNat (i))).2.2.1.length : Int)), .int .i64 (i + 1), .int .i64 ((z.length : Int)), .int .i64 ((nthR z (Int.toNat (i))).1), .int .i64 ((nthR z (Int.toNat (i))).2.1), St' ((nthR z (Int.toNat (i))).2.2.1), .int .i64 ((nthR z (Int.toNat (i))).2.2.2), .int .i64 (((nthR z (Int.toNat (i))).2.2.1.length : Int)), .int .i64 (i + 1), .int .i64 ((z.length : Int))]
def roRb_0 (z : List (Int × Int × LB × Int)) (i : Int) : List Value := [rwG reC z]
def epRb (st : Nat × Int) : LA := epRb_0
def hpRb (st : Nat × Int) : LE := hpRb_0
def nuRb (z : List (Int × Int × LB × Int)) (st : Nat × Int) : List Value := nuRb_0 z (st.2)
def roRb (z : List (Int × Int × LB × Int)) (st : Nat × Int) : List Value := roRb_0 z (st.2)
theorem onRb (z : List (Int × Int × LB × Int)) (st : Nat × Int) : ∀ j, (nuL (nuRb z st) j).oneCell' = true := by
  intro j
  unfold nuRb
  exact nuL_one (l := nuRb_0 z (st.2)) rfl j
theorem ebRb (st : Nat × Int) : (lfB (epRb st) && lfC keepRb) = true := by
  unfold epRb
  rfl
noncomputable def DRb (z : List (Int × Int × LB × Int)) (st : Nat × Int) (X : Nat → Value) : Cx := cx (nuX (nuRb z st) (rX (roRb z st) X)) (nuX_one (onRb z st)) 0 laidE laidE_stab
def InvRb (z : List (Int × Int × LB × Int)) (st : Nat × Int) : Prop := (0 ≤ (st.2)) ∧ ((st.2) ≤ (z.length : Int)) ∧ (z.length ≤ 12) ∧ (∀ q, q ∈ z → reB q) ∧ (okC z = true) ∧ ((st.1) < 1)
abbrev CjRb (z : List (Int × Int × LB × Int)) (tag : Nat) (i : Int) : Prop := (0 ≤ i) ∧ (i ≤ (z.length : Int)) ∧ (z.length ≤ 12) ∧ (∀ q, q ∈ z → reB q) ∧ (okC z = true) ∧ (tag < 1)
theorem mkIRb (z : List (Int × Int × LB × Int)) (tag : Nat) (i : Int) (h : CjRb z tag i) : InvRb z (tag, i) := h
theorem unIRb (z : List (Int × Int × LB × Int)) (tag : Nat) (i : Int) (h : InvRb z (tag, i)) : (0 ≤ i) ∧ (i ≤ (z.length : Int)) ∧ (z.length ≤ 12) ∧ (∀ q, q ∈ z → reB q) ∧ (okC z = true) ∧ (tag < 1) := h
def muRb (z : List (Int × Int × LB × Int)) (st : Nat × Int) : Nat := (z.length - (st.2).toNat)
abbrev RHRb (z : List (Int × Int × LB × Int)) (E' : Cx) (ex' : Ex) (epx' : LA) (hpx' : LE) (st : Nat × Int) (X : Nat → Value) : Prop := RoundH E' bodyRb keepRb 65 ex' 1 31 31 61 epRb hpRb epx' hpx' (InvRb z) (muRb z) (DRb z) st X
noncomputable abbrev RNRb_0 (h : LK) (x : Ex) (th : LA) (sg : List (Nat × Nat)) (m : Nat) (ep : LA) (hp : LE) : Bool := okRdH (code (tbl h) 3000 [] bodyRb (envOf (headOf epRb_0 keepRb) 65) ⟨lhSet hpRb_0 .leaf, 31, 0, 0⟩) x keepRb 65 61 th sg 31 m ep hp
theorem stRb_0 (z : List (Int × Int × LB × Int)) (i : Int) {X : Nat → Value} {h : LK} (y : Nat × Int) {th : LA} {sg : List (Nat × Nat)} (ho : ∀ a' r', (a', r') ∈ h → HOk (cx (nuX (nuRb_0 z i) (rX (roRb_0 z i) X)) (nuX_one (nuL_one (l := nuRb_0 z i) rfl)) 0 laidE laidE_stab) a' r') (hy : InvRb z y) (lt : muRb z y < muRb z (0, i)) (ht : ThOk (cx (nuX (nuRb_0 z i) (rX (roRb_0 z i) X)) (nuX_one (nuL_one (l := nuRb_0 z i) rfl)) 0 laidE laidE_stab) (DRb z y X) th) (run : RNRb_0 h .normal th sg 31 (epRb y) (hpRb y) = true) : RHRb z E' x' e' h' (0, i) X :=
  RoundH.next (tb := tbl h) (L := []) (f := 3000) y ((tabkOk _ _).hyps ho) (LpOk.nil _) rfl hy lt ht run
theorem lvRb_0 (z : List (Int × Int × LB × Int)) (i : Int) {X : Nat → Value} {h : LK} {th : LA} {sg : List (Nat × Nat)} (hne : exB x' .normal = false) (ho : ∀ a' r', (a', r') ∈ h → HOk (cx (nuX (nuRb_0 z i) (rX (roRb_0 z i) X)) (nuX_one (nuL_one (l := nuRb_0 z i) rfl)) 0 laidE laidE_stab) a' r') (ht : ThOk (cx (nuX (nuRb_0 z i) (rX (roRb_0 z i) X)) (nuX_one (nuL_one (l := nuRb_0 z i) rfl)) 0 laidE laidE_stab) E' th) (run : RNRb_0 h x' th sg 61 e' h' = true) : RHRb z E' x' e' h' (0, i) X :=
  RoundH.leave (tb := tbl h) (L := []) (f := 3000) ((tabkOk _ _).hyps ho) (LpOk.nil _) rfl hne ht run
def hyRb_p0 : LK := [(.rl (.x 2000000) 4, .x 2), (.bin .lss (.x 0) (.x 2), .b true), (.el (.x 2000000) (.x 0) 4 0, .x 3), (.el (.x 2000000) (.x 0) 4 1, .x 4), (.el (.x 2000000) (.x 0) 4 2, .x 5), (.el (.x 2000000) (.x 0) 4 3, .x 6), (.bin .geq (.x 3) (.i .i64 (.ofNat 1)), .b true), (.bin .leq (.x 3) (.i .i64 (.ofNat 255)), .b true), (.bin .geq (.x 4) (.i .i64 (.ofNat 0)), .b true), (.bin .leq (.x 4) (.i .i64 (.ofNat 65535)), .b true), (.len (.x 5), .x 7), (.bin .leq (.x 7) (.i .i64 (.ofNat 65535)), .b true), (.bin .geq (.x 6) (.i .i64 (.ofNat 0)), .b true), (.bin .leq (.x 6) (.i .i64 (.ofNat 255)), .b true), (.bin .neq (.x 1) (.s 0 0), .b true), (.idx (.x 1) (.i .i64 (.ofNat 0)), .i .u8 (.ofNat 1)), (.len (.x 1), .x 8), (.bin .lss (.x 8) (.i .i64 (.ofNat 8)), .b false), (.idx (.x 1) (.i .i64 (.ofNat 4)), .x 9), (.conv 3 (.x 9), .x 10), (.bin .shl (.x 10) (.i .u64 (.ofNat 8)), .x 11), (.bin .add (.i .i64 (.ofNat 8)) (.x 11), .x 12), (.idx (.x 1) (.i .i64 (.ofNat 5)), .x 13), (.conv 3 (.x 13), .x 14), (.bin .add (.x 12) (.x 14), .x 15), (.idx (.x 1) (.i .i64 (.ofNat 6)), .x 16), (.conv 3 (.x 16), .x 17), (.bin .add (.x 15) (.x 17), .x 18), (.bin .lss (.x 8) (.x 18), .b false), (.idx (.x 1) (.i .i64 (.ofNat 1)), .x 19), (.bin .eql (.x 19) (.i .u8 (.ofNat 0)), .b false), (.conv 3 (.x 19), .x 20), (.idx (.x 1) (.i .i64 (.ofNat 2)), .x 21), (.conv 3 (.x 21), .x 22), (.bin .shl (.x 22) (.i .u64 (.ofNat 8)), .x 23), (.idx (.x 1) (.i .i64 (.ofNat 3)), .x 24), (.conv 3 (.x 24), .x 25), (.bin .or (.x 23) (.x 25), .x 26), (.bin .sub (.x 18) (.x 17), .x 27), (.sub (.x 1) (some (.i .i64 (.ofNat 8))) (some (.x 27)), .x 28), (.sub (.x 1) (some (.x 18)) none, .x 29), (.eq 3 (.x 20) (.x 3), .b true), (.eq 3 (.x 26) (.x 4), .b true), (.eq 9 (.x 28) (.x 5), .b true), (.eq 3 (.x 17) (.x 6), .b true), (.bin .add (.x 0) (.i .i64 (.ofNat 1)), .x 30)]
theorem runRb_p0 : RNRb_0 hyRb_p0 .normal [(0, .x 30), (1, .x 29), (2000000, .x 2000000)] [] 31 epRb_0 hpRb_0 = true := by kernel_rfl
theorem nxRb_p0 (z : List (Int × Int × LB × Int)) (i : Int) (X : Nat → Value) (hI : InvRb z (0, i)) (h0 : i < (z.length : Int)) (h1 : 1 ≤ (nthR z (Int.toNat (i))).1) (h2 : (nthR z (Int.toNat (i))).1 ≤ 255) (h3 : 0 ≤ (nthR z (Int.toNat (i))).2.1) (h4 : (nthR z (Int.toNat (i))).2.1 ≤ 65535) (h6 : 0 ≤ (nthR z (Int.toNat (i))).2.2.2) (h7 : (nthR z (Int.toNat (i))).2.2.2 ≤ 255) : RHRb z E' x' e' h' (0, i) X := by
  obtain ⟨i0, i1, i2, i3, i4, it⟩ := unIRb z 0 i hI
  have hcc := oc_at (by omega) (by omega) i4
  have hln := rs_len (i := i) i4 i2
  have hln2 := rs_len (i := i + 1) i4 i2
  have := reAt (l := z) (by assumption) (Int.toNat (i))
  have hS : rbS (z.drop (Int.toNat i)) = ([u8 1, u8 (((nthR z (Int.toNat (i))).1) % 256), u8 ((((nthR z (Int.toNat (i))).2.1) / 256) % 256), u8 (((nthR z (Int.toNat (i))).2.1) % 256), u8 ((((nthR z (Int.toNat (i))).2.2.1.length : Int) / 256) % 256), u8 (((nthR z (Int.toNat (i))).2.2.1.length : Int) % 256), u8 (((nthR z (Int.toNat (i))).2.2.2) % 256), u8 0] ++ ((nthR z (Int.toNat (i))).2.2.1 ++ ((List.replicate (Int.toNat ((nthR z (Int.toNat (i))).2.2.2)) 0) ++ (rbS (z.drop (Int.toNat (i + 1))))))) := (rs_y (by omega) (by omega) (by omega)).trans (by unfold rbP; simp only [List.append_assoc])
  refine stRb_0 z i (h := hyRb_p0) (0, i + 1) ?_ (mkIRb z 0 (i + 1) ⟨by omega, by omega, i2, i3, i4, by omega⟩) (by show z.length - (i + 1).toNat < z.length - i.toNat; omega) (thXi (b := ((i + 1))) rfl rfl (by omega) (thXv (v := St' (rbS (z.drop (Int.toNat (i + 1))))) rfl rfl (thXv (v := rwG reC z) rfl rfl (thNil)))) runRb_p0
  unfold hyRb_p0
  exact hc (kRlG reC_len (isX rfl) (denX rfl) (by first | omega | (simp <;> omega))) <|
   hc (ltT rfl rfl (by omega)) <|
   hc (kElG (j := (Int.toNat (i))) (d := (0, 0, [], 0)) reC_len (by decide) (isX rfl) (isX rfl) (denX rfl) (by omega) (by omega) rfl) <|
   hc (kElG (j := (Int.toNat (i))) (d := (0, 0, [], 0)) reC_len (by decide) (isX rfl) (isX rfl) (denX rfl) (by omega) (by omega) rfl) <|
   hc (kElG (j := (Int.toNat (i))) (d := (0, 0, [], 0)) reC_len (by decide) (isX rfl) (isX rfl) (denX rfl) (by omega) (by omega) rfl) <|
   hc (kElG (j := (Int.toNat (i))) (d := (0, 0, [], 0)) reC_len (by decide) (isX rfl) (isX rfl) (denX rfl) (by omega) (by omega) rfl) <|
   hc (gecT rfl (by omega)) <|
   hc (lecT rfl (by omega)) <|
   hc (gecT rfl (by omega)) <|
   hc (lecT rfl (by omega)) <|
   hc (lnV rfl rfl (by omega)) <|
   hc (lecT rfl (by omega)) <|
   hc (gecT rfl (by omega)) <|
   hc (lecT rfl (by omega)) <|
   hc (kNeS (isX (congrArg (fun l => St' l) hS)) (isSx (l := ([] : LB)) 0 0 rfl) (bnT (nilF (by first | omega | (simp <;> omega))))) <|
   hc (kIdxE (i := 0) (isX (congrArg (fun l => St' l) hS)) (isZ (m := 0) rfl) (denZ (m := 1) rfl) rfl (by first | omega | (simp <;> omega)) (bt_at rfl (by omega) (by omega))) <|
   hc (kLenE (isX (congrArg (fun l => St' l) hS)) (denX rfl) (by first | omega | (simp <;> omega))) <|
   hc (ltcF rfl (by omega)) <|
   hc (kIdxE (i := 4) (isX (congrArg (fun l => St' l) hS)) (isZ (m := 4) rfl) (denX rfl) rfl (by first | omega | (simp <;> omega)) (bt_at rfl (by omega) (by omega))) <|
   hc (kConvF (isX rfl) tu3 (denX rfl) (fI64 (by omega) (by omega))) <|
   hc (kShlM 8 256 rfl (isX rfl) (isZ (m := 8) rfl) (denX rfl) rfl (by decide) (by omega) (fI64 (by omega) (by omega))) <|
   hc (kAdd (isZ (m := 8) rfl) (isX rfl) (denX rfl) (by omega) (fI64 (by omega) (by omega))) <|
   hc (kIdxE (i := 5) (isX (congrArg (fun l => St' l) hS)) (isZ (m := 5) rfl) (denX rfl) rfl (by first | omega | (simp <;> omega)) (bt_at rfl (by omega) (by omega))) <|
   hc (kConvF (isX rfl) tu3 (denX rfl) (fI64 (by omega) (by omega))) <|
   hc (adX rfl rfl rfl (by omega)) <|
   hc (kIdxE (i := 6) (isX (congrArg (fun l => St' l) hS)) (isZ (m := 6) rfl) (denX rfl) rfl (by first | omega | (simp <;> omega)) (bt_at rfl (by omega) (by omega))) <|
   hc (kConvF (isX rfl) tu3 (denX rfl) (fI64 (by omega) (by omega))) <|
   hc (adX rfl rfl rfl (by omega)) <|
   hc (ltF rfl rfl (by omega)) <|
   hc (kIdxE (i := 1) (isX (congrArg (fun l => St' l) hS)) (isZ (m := 1) rfl) (denX rfl) rfl (by first | omega | (simp <;> omega)) (bt_at rfl (by omega) (by omega))) <|
   hc (eqcF rfl (by omega)) <|
   hc (kConvF (isX rfl) tu3 (denX rfl) (fI64 (by omega) (by omega))) <|
   hc (kIdxE (i := 2) (isX (congrArg (fun l => St' l) hS)) (isZ (m := 2) rfl) (denX rfl) rfl (by first | omega | (simp <;> omega)) (bt_at rfl (by omega) (by omega))) <|
   hc (kConvF (isX rfl) tu3 (denX rfl) (fI64 (by omega) (by omega))) <|
   hc (kShlM 8 256 rfl (isX rfl) (isZ (m := 8) rfl) (denX rfl) rfl (by decide) (by omega) (fI64 (by omega) (by omega))) <|
   hc (kIdxE (i := 3) (isX (congrArg (fun l => St' l) hS)) (isZ (m := 3) rfl) (denX rfl) rfl (by first | omega | (simp <;> omega)) (bt_at rfl (by omega) (by omega))) <|
   hc (kConvF (isX rfl) tu3 (denX rfl) (fI64 (by omega) (by omega))) <|
   hc (kOrM 8 256 rfl (isX rfl) (isX rfl) (denX rfl) (by omega) (by omega) (fI64 (by omega) (by omega)) (fI64 (by omega) (by omega)) (by omega) (by omega) (by omega) (fI64 (by omega) (by omega))) <|
   hc (sbX rfl rfl rfl (by omega)) <|
   hc (kCut (isX (congrArg (fun l => St' l) hS)) (.inr ⟨_, _, rfl, (isZ (m := 8) rfl)⟩) (.inr ⟨_, _, rfl, (isX rfl)⟩) (p := [u8 1, u8 (((nthR z (Int.toNat (i))).1) % 256), u8 ((((nthR z (Int.toNat (i))).2.1) / 256) % 256), u8 (((nthR z (Int.toNat (i))).2.1) % 256), u8 ((((nthR z (Int.toNat (i))).2.2.1.length : Int) / 256) % 256), u8 (((nthR z (Int.toNat (i))).2.2.1.length : Int) % 256), u8 (((nthR z (Int.toNat (i))).2.2.2) % 256), u8 0]) (m := (nthR z (Int.toNat (i))).2.2.1) (q := ((List.replicate (Int.toNat ((nthR z (Int.toNat (i))).2.2.2)) 0) ++ (rbS (z.drop (Int.toNat (i + 1)))))) (by first | rfl | (simp; done)) (by first | omega | (simp <;> omega)) (by first | omega | (simp <;> omega)) (denX rfl)) <|
   hc (kCut (isX (congrArg (fun l => St' l) hS)) (.inr ⟨_, _, rfl, (isX rfl)⟩) (.inl ⟨rfl, rfl⟩) (p := ([u8 1, u8 (((nthR z (Int.toNat (i))).1) % 256), u8 ((((nthR z (Int.toNat (i))).2.1) / 256) % 256), u8 (((nthR z (Int.toNat (i))).2.1) % 256), u8 ((((nthR z (Int.toNat (i))).2.2.1.length : Int) / 256) % 256), u8 (((nthR z (Int.toNat (i))).2.2.1.length : Int) % 256), u8 (((nthR z (Int.toNat (i))).2.2.2) % 256), u8 0] ++ ((nthR z (Int.toNat (i))).2.2.1 ++ (List.replicate (Int.toNat ((nthR z (Int.toNat (i))).2.2.2)) 0)))) (m := (rbS (z.drop (Int.toNat (i + 1))))) (q := ([] : LB)) (by first | rfl | (simp; done)) (by first | omega | (simp <;> omega)) (by first | omega | (simp <;> omega)) (denX rfl)) <|
   hc (kEqT (isX rfl) (isX rfl) tu3 (decide_eq_true (by omega))) <|
   hc (kEqT (isX rfl) (isX rfl) tu3 (decide_eq_true (by omega))) <|
   hc (kEqTS (isX rfl) (isX rfl) tu9 (decide_eq_true rfl)) <|
   hc (kEqT (isX rfl) (isX rfl) tu3 (decide_eq_true (by omega))) <|
   hc (adC rfl rfl (by omega)) <|
   hnil
def hyRb_p1 : LK := [(.rl (.x 2000000) 4, .x 31), (.bin .lss (.x 0) (.x 31), .b true), (.el (.x 2000000) (.x 0) 4 0, .x 32), (.el (.x 2000000) (.x 0) 4 1, .x 33), (.el (.x 2000000) (.x 0) 4 2, .x 34), (.el (.x 2000000) (.x 0) 4 3, .x 35), (.bin .geq (.x 32) (.i .i64 (.ofNat 1)), .b false), (.bin .add (.x 0) (.i .i64 (.ofNat 1)), .x 36)]
theorem runRb_p1 : RNRb_0 hyRb_p1 .normal [(0, .x 36), (1, .x 1), (2000000, .x 2000000)] [] 31 epRb_0 hpRb_0 = true := by kernel_rfl
theorem nxRb_p1 (z : List (Int × Int × LB × Int)) (i : Int) (X : Nat → Value) (hI : InvRb z (0, i)) (h0 : i < (z.length : Int)) (h1 : ¬ (1 ≤ (nthR z (Int.toNat (i))).1)) : RHRb z E' x' e' h' (0, i) X := by
  obtain ⟨i0, i1, i2, i3, i4, it⟩ := unIRb z 0 i hI
  have hcc := oc_at (by omega) (by omega) i4
  have hln := rs_len (i := i) i4 i2
  have hln2 := rs_len (i := i + 1) i4 i2
  have := reAt (l := z) (by assumption) (Int.toNat (i))
  refine stRb_0 z i (h := hyRb_p1) (0, i + 1) ?_ (mkIRb z 0 (i + 1) ⟨by omega, by omega, i2, i3, i4, by omega⟩) (by show z.length - (i + 1).toNat < z.length - i.toNat; omega) (thXi (b := ((i + 1))) rfl rfl (by omega) (thXe (v := St' (rbS (z.drop (Int.toNat i)))) (u := St' (rbS (z.drop (Int.toNat (i + 1))))) rfl rfl (congrArg (fun l => St' l) (rs_n (by omega) (by omega) (by omega))) (thXv (v := rwG reC z) rfl rfl (thNil)))) runRb_p1
  unfold hyRb_p1
  exact hc (kRlG reC_len (isX rfl) (denX rfl) (by first | omega | (simp <;> omega))) <|
   hc (ltT rfl rfl (by omega)) <|
   hc (kElG (j := (Int.toNat (i))) (d := (0, 0, [], 0)) reC_len (by decide) (isX rfl) (isX rfl) (denX rfl) (by omega) (by omega) rfl) <|
   hc (kElG (j := (Int.toNat (i))) (d := (0, 0, [], 0)) reC_len (by decide) (isX rfl) (isX rfl) (denX rfl) (by omega) (by omega) rfl) <|
   hc (kElG (j := (Int.toNat (i))) (d := (0, 0, [], 0)) reC_len (by decide) (isX rfl) (isX rfl) (denX rfl) (by omega) (by omega) rfl) <|
   hc (kElG (j := (Int.toNat (i))) (d := (0, 0, [], 0)) reC_len (by decide) (isX rfl) (isX rfl) (denX rfl) (by omega) (by omega) rfl) <|
   hc (gecF rfl (by omega)) <|
   hc (adC rfl rfl (by omega)) <|
   hnil
def hyRb_p2 : LK := [(.rl (.x 2000000) 4, .x 37), (.bin .lss (.x 0) (.x 37), .b true), (.el (.x 2000000) (.x 0) 4 0, .x 38), (.el (.x 2000000) (.x 0) 4 1, .x 39), (.el (.x 2000000) (.x 0) 4 2, .x 40), (.el (.x 2000000) (.x 0) 4 3, .x 41), (.bin .geq (.x 38) (.i .i64 (.ofNat 1)), .b true), (.bin .leq (.x 38) (.i .i64 (.ofNat 255)), .b false), (.bin .add (.x 0) (.i .i64 (.ofNat 1)), .x 42)]
theorem runRb_p2 : RNRb_0 hyRb_p2 .normal [(0, .x 42), (1, .x 1), (2000000, .x 2000000)] [] 31 epRb_0 hpRb_0 = true := by kernel_rfl
theorem nxRb_p2 (z : List (Int × Int × LB × Int)) (i : Int) (X : Nat → Value) (hI : InvRb z (0, i)) (h0 : i < (z.length : Int)) (h1 : 1 ≤ (nthR z (Int.toNat (i))).1) (h2 : ¬ ((nthR z (Int.toNat (i))).1 ≤ 255)) : RHRb z E' x' e' h' (0, i) X := by
  obtain ⟨i0, i1, i2, i3, i4, it⟩ := unIRb z 0 i hI
  have hcc := oc_at (by omega) (by omega) i4
  have hln := rs_len (i := i) i4 i2
  have hln2 := rs_len (i := i + 1) i4 i2
  have := reAt (l := z) (by assumption) (Int.toNat (i))
  refine stRb_0 z i (h := hyRb_p2) (0, i + 1) ?_ (mkIRb z 0 (i + 1) ⟨by omega, by omega, i2, i3, i4, by omega⟩) (by show z.length - (i + 1).toNat < z.length - i.toNat; omega) (thXi (b := ((i + 1))) rfl rfl (by omega) (thXe (v := St' (rbS (z.drop (Int.toNat i)))) (u := St' (rbS (z.drop (Int.toNat (i + 1))))) rfl rfl (congrArg (fun l => St' l) (rs_n (by omega) (by omega) (by omega))) (thXv (v := rwG reC z) rfl rfl (thNil)))) runRb_p2
  unfold hyRb_p2
  exact hc (kRlG reC_len (isX rfl) (denX rfl) (by first | omega | (simp <;> omega))) <|
   hc (ltT rfl rfl (by omega)) <|
   hc (kElG (j := (Int.toNat (i))) (d := (0, 0, [], 0)) reC_len (by decide) (isX rfl) (isX rfl) (denX rfl) (by omega) (by omega) rfl) <|
   hc (kElG (j := (Int.toNat (i))) (d := (0, 0, [], 0)) reC_len (by decide) (isX rfl) (isX rfl) (denX rfl) (by omega) (by omega) rfl) <|
   hc (kElG (j := (Int.toNat (i))) (d := (0, 0, [], 0)) reC_len (by decide) (isX rfl) (isX rfl) (denX rfl) (by omega) (by omega) rfl) <|
   hc (kElG (j := (Int.toNat (i))) (d := (0, 0, [], 0)) reC_len (by decide) (isX rfl) (isX rfl) (denX rfl) (by omega) (by omega) rfl) <|
   hc (gecT rfl (by omega)) <|
   hc (lecF rfl (by omega)) <|
   hc (adC rfl rfl (by omega)) <|
   hnil
def hyRb_p3 : LK := [(.rl (.x 2000000) 4, .x 43), (.bin .lss (.x 0) (.x 43), .b true), (.el (.x 2000000) (.x 0) 4 0, .x 44), (.el (.x 2000000) (.x 0) 4 1, .x 45), (.el (.x 2000000) (.x 0) 4 2, .x 46), (.el (.x 2000000) (.x 0) 4 3, .x 47), (.bin .geq (.x 44) (.i .i64 (.ofNat 1)), .b true), (.bin .leq (.x 44) (.i .i64 (.ofNat 255)), .b true), (.bin .geq (.x 45) (.i .i64 (.ofNat 0)), .b false), (.bin .add (.x 0) (.i .i64 (.ofNat 1)), .x 48)]
theorem runRb_p3 : RNRb_0 hyRb_p3 .normal [(0, .x 48), (1, .x 1), (2000000, .x 2000000)] [] 31 epRb_0 hpRb_0 = true := by kernel_rfl
theorem nxRb_p3 (z : List (Int × Int × LB × Int)) (i : Int) (X : Nat → Value) (hI : InvRb z (0, i)) (h0 : i < (z.length : Int)) (h1 : 1 ≤ (nthR z (Int.toNat (i))).1) (h2 : (nthR z (Int.toNat (i))).1 ≤ 255) (h3 : ¬ (0 ≤ (nthR z (Int.toNat (i))).2.1)) : RHRb z E' x' e' h' (0, i) X := by
  obtain ⟨i0, i1, i2, i3, i4, it⟩ := unIRb z 0 i hI
  have hcc := oc_at (by omega) (by omega) i4
  have hln := rs_len (i := i) i4 i2
  have hln2 := rs_len (i := i + 1) i4 i2
  have := reAt (l := z) (by assumption) (Int.toNat (i))
  refine stRb_0 z i (h := hyRb_p3) (0, i + 1) ?_ (mkIRb z 0 (i + 1) ⟨by omega, by omega, i2, i3, i4, by omega⟩) (by show z.length - (i + 1).toNat < z.length - i.toNat; omega) (thXi (b := ((i + 1))) rfl rfl (by omega) (thXe (v := St' (rbS (z.drop (Int.toNat i)))) (u := St' (rbS (z.drop (Int.toNat (i + 1))))) rfl rfl (congrArg (fun l => St' l) (rs_n (by omega) (by omega) (by omega))) (thXv (v := rwG reC z) rfl rfl (thNil)))) runRb_p3
  unfold hyRb_p3
  exact hc (kRlG reC_len (isX rfl) (denX rfl) (by first | omega | (simp <;> omega))) <|
   hc (ltT rfl rfl (by omega)) <|
   hc (kElG (j := (Int.toNat (i))) (d := (0, 0, [], 0)) reC_len (by decide) (isX rfl) (isX rfl) (denX rfl) (by omega) (by omega) rfl) <|
   hc (kElG (j := (Int.toNat (i))) (d := (0, 0, [], 0)) reC_len (by decide) (isX rfl) (isX rfl) (denX rfl) (by omega) (by omega) rfl) <|
   hc (kElG (j := (Int.toNat (i))) (d := (0, 0, [], 0)) reC_len (by decide) (isX rfl) (isX rfl) (denX rfl) (by omega) (by omega) rfl) <|
   hc (kElG (j := (Int.toNat (i))) (d := (0, 0, [], 0)) reC_len (by decide) (isX rfl) (isX rfl) (denX rfl) (by omega) (by omega) rfl) <|
   hc (gecT rfl (by omega)) <|
   hc (lecT rfl (by omega)) <|
   hc (gecF rfl (by omega)) <|
   hc (adC rfl rfl (by omega)) <|
   hnil
def hyRb_p4 : LK := [(.rl (.x 2000000) 4, .x 49), (.bin .lss (.x 0) (.x 49), .b true), (.el (.x 2000000) (.x 0) 4 0, .x 50), (.el (.x 2000000) (.x 0) 4 1, .x 51), (.el (.x 2000000) (.x 0) 4 2, .x 52), (.el (.x 2000000) (.x 0) 4 3, .x 53), (.bin .geq (.x 50) (.i .i64 (.ofNat 1)), .b true), (.bin .leq (.x 50) (.i .i64 (.ofNat 255)), .b true), (.bin .geq (.x 51) (.i .i64 (.ofNat 0)), .b true), (.bin .leq (.x 51) (.i .i64 (.ofNat 65535)), .b false), (.bin .add (.x 0) (.i .i64 (.ofNat 1)), .x 54)]
theorem runRb_p4 : RNRb_0 hyRb_p4 .normal [(0, .x 54), (1, .x 1), (2000000, .x 2000000)] [] 31 epRb_0 hpRb_0 = true := by kernel_rfl
theorem nxRb_p4 (z : List (Int × Int × LB × Int)) (i : Int) (X : Nat → Value) (hI : InvRb z (0, i)) (h0 : i < (z.length : Int)) (h1 : 1 ≤ (nthR z (Int.toNat (i))).1) (h2 : (nthR z (Int.toNat (i))).1 ≤ 255) (h3 : 0 ≤ (nthR z (Int.toNat (i))).2.1) (h4 : ¬ ((nthR z (Int.toNat (i))).2.1 ≤ 65535)) : RHRb z E' x' e' h' (0, i) X := by
  obtain ⟨i0, i1, i2, i3, i4, it⟩ := unIRb z 0 i hI
  have hcc := oc_at (by omega) (by omega) i4
  have hln := rs_len (i := i) i4 i2
  have hln2 := rs_len (i := i + 1) i4 i2
  have := reAt (l := z) (by assumption) (Int.toNat (i))
  refine stRb_0 z i (h := hyRb_p4) (0, i + 1) ?_ (mkIRb z 0 (i + 1) ⟨by omega, by omega, i2, i3, i4, by omega⟩) (by show z.length - (i + 1).toNat < z.length - i.toNat; omega) (thXi (b := ((i + 1))) rfl rfl (by omega) (thXe (v := St' (rbS (z.drop (Int.toNat i)))) (u := St' (rbS (z.drop (Int.toNat (i + 1))))) rfl rfl (congrArg (fun l => St' l) (rs_n (by omega) (by omega) (by omega))) (thXv (v := rwG reC z) rfl rfl (thNil)))) runRb_p4
  unfold hyRb_p4
  exact hc (kRlG reC_len (isX rfl) (denX rfl) (by first | omega | (simp <;> omega))) <|
   hc (ltT rfl rfl (by omega)) <|
   hc (kElG (j := (Int.toNat (i))) (d := (0, 0, [], 0)) reC_len (by decide) (isX rfl) (isX rfl) (denX rfl) (by omega) (by omega) rfl) <|
   hc (kElG (j := (Int.toNat (i))) (d := (0, 0, [], 0)) reC_len (by decide) (isX rfl) (isX rfl) (denX rfl) (by omega) (by omega) rfl) <|
   hc (kElG (j := (Int.toNat (i))) (d := (0, 0, [], 0)) reC_len (by decide) (isX rfl) (isX rfl) (denX rfl) (by omega) (by omega) rfl) <|
   hc (kElG (j := (Int.toNat (i))) (d := (0, 0, [], 0)) reC_len (by decide) (isX rfl) (isX rfl) (denX rfl) (by omega) (by omega) rfl) <|
   hc (gecT rfl (by omega)) <|
   hc (lecT rfl (by omega)) <|
   hc (gecT rfl (by omega)) <|
   hc (lecF rfl (by omega)) <|
   hc (adC rfl rfl (by omega)) <|
   hnil
def hyRb_p5 : LK := [(.rl (.x 2000000) 4, .x 55), (.bin .lss (.x 0) (.x 55), .b true), (.el (.x 2000000) (.x 0) 4 0, .x 56), (.el (.x 2000000) (.x 0) 4 1, .x 57), (.el (.x 2000000) (.x 0) 4 2, .x 58), (.el (.x 2000000) (.x 0) 4 3, .x 59), (.bin .geq (.x 56) (.i .i64 (.ofNat 1)), .b true), (.bin .leq (.x 56) (.i .i64 (.ofNat 255)), .b true), (.bin .geq (.x 57) (.i .i64 (.ofNat 0)), .b true), (.bin .leq (.x 57) (.i .i64 (.ofNat 65535)), .b true), (.len (.x 58), .x 60), (.bin .leq (.x 60) (.i .i64 (.ofNat 65535)), .b true), (.bin .geq (.x 59) (.i .i64 (.ofNat 0)), .b false), (.bin .add (.x 0) (.i .i64 (.ofNat 1)), .x 61)]
theorem runRb_p5 : RNRb_0 hyRb_p5 .normal [(0, .x 61), (1, .x 1), (2000000, .x 2000000)] [] 31 epRb_0 hpRb_0 = true := by kernel_rfl
theorem nxRb_p5 (z : List (Int × Int × LB × Int)) (i : Int) (X : Nat → Value) (hI : InvRb z (0, i)) (h0 : i < (z.length : Int)) (h1 : 1 ≤ (nthR z (Int.toNat (i))).1) (h2 : (nthR z (Int.toNat (i))).1 ≤ 255) (h3 : 0 ≤ (nthR z (Int.toNat (i))).2.1) (h4 : (nthR z (Int.toNat (i))).2.1 ≤ 65535) (h6 : ¬ (0 ≤ (nthR z (Int.toNat (i))).2.2.2)) : RHRb z E' x' e' h' (0, i) X := by
  obtain ⟨i0, i1, i2, i3, i4, it⟩ := unIRb z 0 i hI
  have hcc := oc_at (by omega) (by omega) i4
  have hln := rs_len (i := i) i4 i2
  have hln2 := rs_len (i := i + 1) i4 i2
  have := reAt (l := z) (by assumption) (Int.toNat (i))
  refine stRb_0 z i (h := hyRb_p5) (0, i + 1) ?_ (mkIRb z 0 (i + 1) ⟨by omega, by omega, i2, i3, i4, by omega⟩) (by show z.length - (i + 1).toNat < z.length - i.toNat; omega) (thXi (b := ((i + 1))) rfl rfl (by omega) (thXe (v := St' (rbS (z.drop (Int.toNat i)))) (u := St' (rbS (z.drop (Int.toNat (i + 1))))) rfl rfl (congrArg (fun l => St' l) (rs_n (by omega) (by omega) (by omega))) (thXv (v := rwG reC z) rfl rfl (thNil)))) runRb_p5
  unfold hyRb_p5
  exact hc (kRlG reC_len (isX rfl) (denX rfl) (by first | omega | (simp <;> omega))) <|
   hc (ltT rfl rfl (by omega)) <|
   hc (kElG (j := (Int.toNat (i))) (d := (0, 0, [], 0)) reC_len (by decide) (isX rfl) (isX rfl) (denX rfl) (by omega) (by omega) rfl) <|
   hc (kElG (j := (Int.toNat (i))) (d := (0, 0, [], 0)) reC_len (by decide) (isX rfl) (isX rfl) (denX rfl) (by omega) (by omega) rfl) <|
   hc (kElG (j := (Int.toNat (i))) (d := (0, 0, [], 0)) reC_len (by decide) (isX rfl) (isX rfl) (denX rfl) (by omega) (by omega) rfl) <|
   hc (kElG (j := (Int.toNat (i))) (d := (0, 0, [], 0)) reC_len (by decide) (isX rfl) (isX rfl) (denX rfl) (by omega) (by omega) rfl) <|
   hc (gecT rfl (by omega)) <|
   hc (lecT rfl (by omega)) <|
   hc (gecT rfl (by omega)) <|
   hc (lecT rfl (by omega)) <|
   hc (lnV rfl rfl (by omega)) <|
   hc (lecT rfl (by omega)) <|
   hc (gecF rfl (by omega)) <|
   hc (adC rfl rfl (by omega)) <|
   hnil
def hyRb_p6 : LK := [(.rl (.x 2000000) 4, .x 62), (.bin .lss (.x 0) (.x 62), .b true), (.el (.x 2000000) (.x 0) 4 0, .x 63), (.el (.x 2000000) (.x 0) 4 1, .x 64), (.el (.x 2000000) (.x 0) 4 2, .x 65), (.el (.x 2000000) (.x 0) 4 3, .x 66), (.bin .geq (.x 63) (.i .i64 (.ofNat 1)), .b true), (.bin .leq (.x 63) (.i .i64 (.ofNat 255)), .b true), (.bin .geq (.x 64) (.i .i64 (.ofNat 0)), .b true), (.bin .leq (.x 64) (.i .i64 (.ofNat 65535)), .b true), (.len (.x 65), .x 67), (.bin .leq (.x 67) (.i .i64 (.ofNat 65535)), .b true), (.bin .geq (.x 66) (.i .i64 (.ofNat 0)), .b true), (.bin .leq (.x 66) (.i .i64 (.ofNat 255)), .b false), (.bin .add (.x 0) (.i .i64 (.ofNat 1)), .x 68)]
theorem runRb_p6 : RNRb_0 hyRb_p6 .normal [(0, .x 68), (1, .x 1), (2000000, .x 2000000)] [] 31 epRb_0 hpRb_0 = true := by kernel_rfl
theorem nxRb_p6 (z : List (Int × Int × LB × Int)) (i : Int) (X : Nat → Value) (hI : InvRb z (0, i)) (h0 : i < (z.length : Int)) (h1 : 1 ≤ (nthR z (Int.toNat (i))).1) (h2 : (nthR z (Int.toNat (i))).1 ≤ 255) (h3 : 0 ≤ (nthR z (Int.toNat (i))).2.1) (h4 : (nthR z (Int.toNat (i))).2.1 ≤ 65535) (h6 : 0 ≤ (nthR z (Int.toNat (i))).2.2.2) (h7 : ¬ ((nthR z (Int.toNat (i))).2.2.2 ≤ 255)) : RHRb z E' x' e' h' (0, i) X := by
  obtain ⟨i0, i1, i2, i3, i4, it⟩ := unIRb z 0 i hI
  have hcc := oc_at (by omega) (by omega) i4
  have hln := rs_len (i := i) i4 i2
  have hln2 := rs_len (i := i + 1) i4 i2
  have := reAt (l := z) (by assumption) (Int.toNat (i))
  refine stRb_0 z i (h := hyRb_p6) (0, i + 1) ?_ (mkIRb z 0 (i + 1) ⟨by omega, by omega, i2, i3, i4, by omega⟩) (by show z.length - (i + 1).toNat < z.length - i.toNat; omega) (thXi (b := ((i + 1))) rfl rfl (by omega) (thXe (v := St' (rbS (z.drop (Int.toNat i)))) (u := St' (rbS (z.drop (Int.toNat (i + 1))))) rfl rfl (congrArg (fun l => St' l) (rs_n (by omega) (by omega) (by omega))) (thXv (v := rwG reC z) rfl rfl (thNil)))) runRb_p6
  unfold hyRb_p6
  exact hc (kRlG reC_len (isX rfl) (denX rfl) (by first | omega | (simp <;> omega))) <|
   hc (ltT rfl rfl (by omega)) <|
   hc (kElG (j := (Int.toNat (i))) (d := (0, 0, [], 0)) reC_len (by decide) (isX rfl) (isX rfl) (denX rfl) (by omega) (by omega) rfl) <|
   hc (kElG (j := (Int.toNat (i))) (d := (0, 0, [], 0)) reC_len (by decide) (isX rfl) (isX rfl) (denX rfl) (by omega) (by omega) rfl) <|
   hc (kElG (j := (Int.toNat (i))) (d := (0, 0, [], 0)) reC_len (by decide) (isX rfl) (isX rfl) (denX rfl) (by omega) (by omega) rfl) <|
   hc (kElG (j := (Int.toNat (i))) (d := (0, 0, [], 0)) reC_len (by decide) (isX rfl) (isX rfl) (denX rfl) (by omega) (by omega) rfl) <|
   hc (gecT rfl (by omega)) <|
   hc (lecT rfl (by omega)) <|
   hc (gecT rfl (by omega)) <|
   hc (lecT rfl (by omega)) <|
   hc (lnV rfl rfl (by omega)) <|
   hc (lecT rfl (by omega)) <|
   hc (gecT rfl (by omega)) <|
   hc (lecF rfl (by omega)) <|
   hc (adC rfl rfl (by omega)) <|
   hnil
def hyRb_p7 : LK := [(.rl (.x 2000000) 4, .x 69), (.bin .lss (.x 0) (.x 69), .b false)]
theorem runRb_p7 : RNRb_0 hyRb_p7 (.exit 2) [(0, .x 1), (2000000, .x 2000000)] [] 61 [(0, .sr 1), (3, .x 0)] [(1, .r 2000000 25 4 true)] = true := by kernel_rfl
def nuERb_0 (z : List (Int × Int × LB × Int)) : List Value := [St' ([] : LB)]
def roERb_0 (z : List (Int × Int × LB × Int)) : List Value := [rwG reC z]
noncomputable def ERb_0 (z : List (Int × Int × LB × Int)) : Cx := cx (nuX (nuERb_0 z) (rX (roERb_0 z) (fun _ => .bool true))) (nuX_one (nuL_one (l := nuERb_0 z) rfl)) 0 laidE laidE_stab
theorem roundsRb_0 (z : List (Int × Int × LB × Int)) (st : Nat × Int) (X : Nat → Value) (hI : InvRb z st) : RHRb z (ERb_0 z) (.exit 2) [(0, .sr 1), (3, .x 0)] [(1, .r 2000000 25 4 true)] st X := by
  obtain ⟨tag, i⟩ := st
  have hI0 := hI
  obtain ⟨i0, i1, i2, i3, i4, it⟩ := unIRb z tag i hI
  obtain rfl : tag = 0 := by omega
  skip
  have hln := rs_len (i := i) i4 i2
  have hln2 := rs_len (i := i + 1) i4 i2
  by_cases h0 : i < (z.length : Int)
  · by_cases h1 : 1 ≤ (nthR z (Int.toNat (i))).1
    · by_cases h2 : (nthR z (Int.toNat (i))).1 ≤ 255
      · by_cases h3 : 0 ≤ (nthR z (Int.toNat (i))).2.1
        · by_cases h4 : (nthR z (Int.toNat (i))).2.1 ≤ 65535
          · by_cases h6 : 0 ≤ (nthR z (Int.toNat (i))).2.2.2
            · by_cases h7 : (nthR z (Int.toNat (i))).2.2.2 ≤ 255
              · exact nxRb_p0 z i X hI0 h0 h1 h2 h3 h4 h6 h7
              · exact nxRb_p6 z i X hI0 h0 h1 h2 h3 h4 h6 h7
            · exact nxRb_p5 z i X hI0 h0 h1 h2 h3 h4 h6
          · exact nxRb_p4 z i X hI0 h0 h1 h2 h3 h4
        · exact nxRb_p3 z i X hI0 h0 h1 h2 h3
      · exact nxRb_p2 z i X hI0 h0 h1 h2
    · exact nxRb_p1 z i X hI0 h0 h1
  · skip
    have hln := rs_len (i := i) i4 i2
    have hln2 := rs_len (i := i + 1) i4 i2
    refine lvRb_0 z i (h := hyRb_p7) rfl ?_ (thXe (v := St' (rbS (z.drop (Int.toNat i)))) (u := St' ([] : LB)) rfl rfl (congrArg (fun l => St' l) (rs_x (by omega) (by omega))) (thXv (v := rwG reC z) rfl rfl (thNil))) runRb_p7
    unfold hyRb_p7
    exact hc (kRlG reC_len (isX rfl) (denX rfl) (by first | omega | (simp <;> omega))) <|
     hc (ltF rfl rfl (by omega)) <|
     hnil
theorem lfOkRb_0 {l : LF} {h : LH} (z : List (Int × Int × LB × Int)) (st : Nat × Int) (hI : InvRb z st) (hl : l.hp = some h) (hs : lfSame l h 65 keepRb (.exit 2) 1 31 61 = true) {th0 : LA} {sg0 : List (Nat × Nat)} (hth0 : ∀ X, ThOk (cx nu one 0 laidE laidE_stab) (DRb z st X) th0) (h0 : startOk l h 65 31 31 th0 sg0 (epRb st) (hpRb st) = true) {thx : LA} (hthx : ThOk (ERb_0 z) (cx nu one 0 laidE laidE_stab) thx) (hx : exitOk l h 65 31 61 thx [(0, .sr 1), (3, .x 0)] [(1, .r 2000000 25 4 true)] = true) : LfOk (cx nu one 0 laidE laidE_stab) bodyRb l :=
  lfOkX (E := ERb_0 z) (InvRb z) (muRb z) (DRb z) (fun _ _ => rfl) (fun _ _ => rfl) (fun _ _ => rfl) (fun st X t ht => nuX_keep.trans (rX_keep ((by decide : ∀ t, t ∈ keepRb → t < 1000000) t ht))) rfl rfl rfl hl hs ebRb rfl rfl st hI hth0 h0 hthx hx (roundsRb_0 z)
noncomputable def fi3 : FI := (tabk.fn.get 3).getD default
theorem fi3_at : tabk.fn.get 3 = some fi3 := by kernel_rfl
theorem fi3_body : fi3.body = some (Try.f3.body.getD .skip) := by kernel_rfl
theorem fiB3 : fi3.body.isSome = true := by rw [fi3_body]; rfl
end Go.Proofs.Ytkhcgoeccmkmdaa.recordRows
