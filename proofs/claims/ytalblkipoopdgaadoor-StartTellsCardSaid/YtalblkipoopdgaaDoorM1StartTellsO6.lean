/- A part of the proof: an interpreter of the model's own code on partly known states, and that what it answers is what the program answers. No condition of its own. -/
import Derived.Test.YtalblkipoopdgaaDoorM1StartTellsO5
set_option maxRecDepth 100000
set_option linter.unusedVariables false
set_option linter.unusedSimpArgs false
set_option maxHeartbeats 4000000
namespace Go.Proofs.YtalblkipoopdgaaDoor.startTells
open Go Go.AX Go.Proofs Go.Proofs.YtalblkipoopdgaaDoor
variable {nu : Nat → Value} {one : ∀ i, i < 1000000 → (nu i).oneCell' = true} {E' : Cx} {x' : Ex} {e' : LA} {h' : LE}
theorem fiNSpt : tabk.fn.get 8 = some (fI Tryd.f8 0) ∧ (fI Tryd.f8 0).body.isSome = true := ⟨rfl, by kernel_rfl⟩
def hySpt_0 : LK := [(.bin .eql (.s 1 63) (.x 0), .b false), (.ext 62 [.x 0, .i .u8 (.ofNat 63)], .x 1), (.bin .geq (.x 1) (.i .i64 (.ofNat 0)), .b false)]
theorem runSpt_0 (e : Nat) : okA (call (tbl hySpt_0) 9000 8 [.x 0] ⟨H0 e , 7, 0, 0⟩) (.tu [.x 0, .s 0 0]) = true := by kernel_rfl
def nuSpt_0 (t : LB) : List Value := [St' t, .int .i64 (idxB t 63)]
theorem pathSpt_0 (t : LB) (b0 : t.length ≤ 9223372036854775807) (p0 : t.length ≤ 140737488355328) (h0 : ¬ ([u8 63] = t)) (h1 : ¬ (0 ≤ idxB t 63)) (w : World) (hl : laidE w) : CwR 8 #[St' t] w (.tuple #[St' t, St' ([] : LB)]) := by
  have := ix_bd t 63
  have ho : ∀ k r, (k, r) ∈ hySpt_0 → HOk (cx (nuL (nuSpt_0 t)) (fun j _ => nuL_one (l := nuSpt_0 t) rfl j) 1 laidE laidE_stab) k r := by
    unfold hySpt_0
    exact hc (kEqS (isSx (l := [u8 63]) 1 63 rfl) (isX rfl) (by first | exact decide_eq_true rfl | exact decide_eq_true ‹_› | exact decide_eq_false ‹_›)) <|
     hc (kExtI (n := idxB t 63) exF62 exA62 exB62 (isX rfl) (isZ (m := 63) rfl) (denX rfl) rfl) <|
     hc (gecF rfl (by omega)) <|
     hnil
  refine runC (tb := (tbl hySpt_0)) (ra := .tu [.x 0, .s 0 0]) rfl ((tabkOk (nuL (nuSpt_0 t)) (fun j _ => nuL_one (l := nuSpt_0 t) rfl j)).hyps ho) rfl fiNSpt.1 fiNSpt.2 (fun e => runSpt_0 e ) (args := [St' t]) (by simp only [RelL, Rel]; exact ⟨_, _, rfl, rfl, rfl⟩) w hl fun x hx => ?_
  simp only [Rel, RelL] at hx
  obtain ⟨_, rfl, ⟨_, _, rfl, rfl, ⟨_, _, rfl, ⟨rfl, _⟩, rfl⟩⟩⟩ := hx
  rfl
def hySpt_1 : LK := [(.bin .eql (.s 1 63) (.x 0), .b true), (.sub (.x 0) none (some (.i .i64 (.ofNat 0))), .x 1), (.sub (.x 0) (some (.i .i64 (.ofNat 1))) none, .x 2)]
theorem runSpt_1 (e : Nat) : okA (call (tbl hySpt_1) 9000 8 [.x 0] ⟨H0 e , 7, 0, 0⟩) (.tu [.x 1, .x 2]) = true := by kernel_rfl
def nuSpt_1 (t : LB) : List Value := [St' t, St' (List.take (Int.toNat (0)) t), St' (List.drop (Int.toNat (1)) t)]
theorem pathSpt_1 (t : LB) (b0 : t.length ≤ 9223372036854775807) (p0 : t.length ≤ 140737488355328) (h0 : [u8 63] = t) (w : World) (hl : laidE w) : CwR 8 #[St' t] w (.tuple #[St' (List.take (Int.toNat (0)) t), St' (List.drop (Int.toNat (1)) t)]) := by
  have : t.length = 1 := by rw [← (by assumption : [u8 63] = t)]; rfl
  have := lenTake (l := t) (Q := 0) (by omega) (by omega)
  have := lenDrop (l := t) (P := 1) (by omega) (by omega)
  have ho : ∀ k r, (k, r) ∈ hySpt_1 → HOk (cx (nuL (nuSpt_1 t)) (fun j _ => nuL_one (l := nuSpt_1 t) rfl j) 1 laidE laidE_stab) k r := by
    unfold hySpt_1
    exact hc (kEqS (isSx (l := [u8 63]) 1 63 rfl) (isX rfl) (by first | exact decide_eq_true rfl | exact decide_eq_true ‹_› | exact decide_eq_false ‹_›)) <|
     hc (tkC rfl rfl (by omega)) <|
     hc (drC rfl rfl (by omega)) <|
     hnil
  refine runC (tb := (tbl hySpt_1)) (ra := .tu [.x 1, .x 2]) rfl ((tabkOk (nuL (nuSpt_1 t)) (fun j _ => nuL_one (l := nuSpt_1 t) rfl j)).hyps ho) rfl fiNSpt.1 fiNSpt.2 (fun e => runSpt_1 e ) (args := [St' t]) (by simp only [RelL, Rel]; exact ⟨_, _, rfl, rfl, rfl⟩) w hl fun x hx => ?_
  simp only [Rel, RelL] at hx
  obtain ⟨_, rfl, ⟨_, _, rfl, rfl, ⟨_, _, rfl, rfl, rfl⟩⟩⟩ := hx
  rfl
def hySpt_2 : LK := [(.bin .eql (.s 1 63) (.x 0), .b false), (.ext 62 [.x 0, .i .u8 (.ofNat 63)], .x 1), (.bin .geq (.x 1) (.i .i64 (.ofNat 0)), .b true), (.sub (.x 0) none (some (.x 1)), .x 2), (.bin .add (.x 1) (.i .i64 (.ofNat 1)), .x 3), (.sub (.x 0) (some (.x 3)) none, .x 4)]
theorem runSpt_2 (e : Nat) : okA (call (tbl hySpt_2) 9000 8 [.x 0] ⟨H0 e , 7, 0, 0⟩) (.tu [.x 2, .x 4]) = true := by kernel_rfl
def nuSpt_2 (t : LB) : List Value := [St' t, .int .i64 (idxB t 63), St' (List.take (Int.toNat (idxB t 63)) t), .int .i64 ((idxB t 63) + 1), St' (List.drop (Int.toNat ((idxB t 63) + 1)) t)]
theorem pathSpt_2 (t : LB) (b0 : t.length ≤ 9223372036854775807) (p0 : t.length ≤ 140737488355328) (h0 : ¬ ([u8 63] = t)) (h1 : 0 ≤ idxB t 63) (w : World) (hl : laidE w) : CwR 8 #[St' t] w (.tuple #[St' (List.take (Int.toNat (idxB t 63)) t), St' (List.drop (Int.toNat ((idxB t 63) + 1)) t)]) := by
  have := ix_bd t 63
  have := lenTake (l := t) (Q := idxB t 63) (by omega) (by omega)
  have := lenDrop (l := t) (P := (idxB t 63) + 1) (by omega) (by omega)
  have ho : ∀ k r, (k, r) ∈ hySpt_2 → HOk (cx (nuL (nuSpt_2 t)) (fun j _ => nuL_one (l := nuSpt_2 t) rfl j) 1 laidE laidE_stab) k r := by
    unfold hySpt_2
    exact hc (kEqS (isSx (l := [u8 63]) 1 63 rfl) (isX rfl) (by first | exact decide_eq_true rfl | exact decide_eq_true ‹_› | exact decide_eq_false ‹_›)) <|
     hc (kExtI (n := idxB t 63) exF62 exA62 exB62 (isX rfl) (isZ (m := 63) rfl) (denX rfl) rfl) <|
     hc (gecT rfl (by omega)) <|
     hc (tkV rfl rfl rfl (by omega)) <|
     hc (adC rfl rfl (by omega)) <|
     hc (drV rfl rfl rfl (by omega)) <|
     hnil
  refine runC (tb := (tbl hySpt_2)) (ra := .tu [.x 2, .x 4]) rfl ((tabkOk (nuL (nuSpt_2 t)) (fun j _ => nuL_one (l := nuSpt_2 t) rfl j)).hyps ho) rfl fiNSpt.1 fiNSpt.2 (fun e => runSpt_2 e ) (args := [St' t]) (by simp only [RelL, Rel]; exact ⟨_, _, rfl, rfl, rfl⟩) w hl fun x hx => ?_
  simp only [Rel, RelL] at hx
  obtain ⟨_, rfl, ⟨_, _, rfl, rfl, ⟨_, _, rfl, rfl, rfl⟩⟩⟩ := hx
  rfl
theorem callsSpt (t : LB) (b0 : t.length ≤ 9223372036854775807) (p0 : t.length ≤ 140737488355328) (w : World) (hl : laidE w) : CwR 8 #[St' t] w ((.tuple #[St' (qsA t), St' (qsB t)])) := by
  by_cases h0 : [u8 63] = t
  · rw [show ((.tuple #[St' (qsA t), St' (qsB t)]) : Value) = (.tuple #[St' (List.take (Int.toNat (0)) t), St' (List.drop (Int.toNat (1)) t)] : Value) from by first | exact qs_n (by assumption) | exact qs_n (by omega) | exact qs_y (by omega) | exact qs_1 (by assumption)]
    exact pathSpt_1 t b0 p0 h0 w hl
  · by_cases h1 : 0 ≤ idxB t 63
    · rw [show ((.tuple #[St' (qsA t), St' (qsB t)]) : Value) = (.tuple #[St' (List.take (Int.toNat (idxB t 63)) t), St' (List.drop (Int.toNat ((idxB t 63) + 1)) t)] : Value) from by first | exact qs_n (by assumption) | exact qs_n (by omega) | exact qs_y (by omega) | exact qs_1 (by assumption)]
      exact pathSpt_2 t b0 p0 h0 h1 w hl
    · rw [show ((.tuple #[St' (qsA t), St' (qsB t)]) : Value) = (.tuple #[St' t, St' ([] : LB)] : Value) from by first | exact qs_n (by assumption) | exact qs_n (by omega) | exact qs_y (by omega) | exact qs_1 (by assumption)]
      exact pathSpt_0 t b0 p0 h0 h1 w hl
theorem hokSpt {x0 r : AV} {t : LB} (i0 : Is (cx nu one 1 laidE laidE_stab) x0 (St' t)) (hr : Den (cx nu one 1 laidE laidE_stab) r ((.tuple #[St' (qsA t), St' (qsB t)]))) (b0 : t.length ≤ 9223372036854775807) (p0 : t.length ≤ 140737488355328) : HOk (cx nu one 1 laidE laidE_stab) (.call 8 [x0]) r := by
  intro ρ args ha w hl _
  simp only [RelL] at ha
  obtain ⟨v0, t0, rfl, a0, rfl⟩ := ha
  have e0 := i0 ρ _ a0; subst e0
  exact (callsSpt t b0 p0 w hl).mono fun e w' he => ⟨_, he.1, hr ρ, he.2⟩
noncomputable def bodyRq : Code := loopNo (Tryd.f9.body.getD .skip) 0
theorem keyRq : oneKey (loopsOf (Tryd.f9.body.getD .skip)) 2 0 0 = true := by kernel_rfl
def keepRq : List Nat := []
def epRq_0 : LA := [(0, .x 0), (4, .x 1)]
def hpRq_0 : LE := []
def nuRq_0 (t : LB) (A i : Int) : List Value := [St' t, .int .i64 (i), .int .i64 ((t.length : Int)), .int .i64 ((t.length : Int)), .int .u8 (bt t (Int.toNat (i))), .int .i64 (i + 1), .int .i64 ((t.length : Int)), .int .u8 (bt t (Int.toNat (i))), St' (List.take (Int.toNat (i)) t), .int .i64 (i + 1), St' (List.drop (Int.toNat (i + 1)) t)]
def roRq_0 (t : LB) (A i : Int) : List Value := []
def epRq (st : Nat × Int) : LA := epRq_0
def hpRq (st : Nat × Int) : LE := hpRq_0
def nuRq (t : LB) (A : Int) (st : Nat × Int) : List Value := nuRq_0 t A (st.2)
def roRq (t : LB) (A : Int) (st : Nat × Int) : List Value := roRq_0 t A (st.2)
theorem onRq (t : LB) (A : Int) (st : Nat × Int) : ∀ j, (nuL (nuRq t A st) j).oneCell' = true := by
  intro j
  unfold nuRq
  exact nuL_one (l := nuRq_0 t A (st.2)) rfl j
theorem ebRq (st : Nat × Int) : (lfB (epRq st) && lfC keepRq) = true := by
  unfold epRq
  rfl
noncomputable def DRq (t : LB) (A : Int) (st : Nat × Int) (X : Nat → Value) : Cx := cx (nuX (nuRq t A st) (rX (roRq t A st) X)) (nuX_one (onRq t A st)) 1 laidE laidE_stab
def InvRq (t : LB) (A : Int) (st : Nat × Int) : Prop := (0 ≤ (st.2)) ∧ ((st.2) ≤ (t.length : Int)) ∧ (ixG t (st.2) = A) ∧ ((st.1) < 1)
abbrev CjRq (t : LB) (A : Int) (tag : Nat) (i : Int) : Prop := (0 ≤ i) ∧ (i ≤ (t.length : Int)) ∧ (ixG t i = A) ∧ (tag < 1)
theorem mkIRq (t : LB) (A : Int) (tag : Nat) (i : Int) (h : CjRq t A tag i) : InvRq t A (tag, i) := h
theorem unIRq (t : LB) (A : Int) (tag : Nat) (i : Int) (h : InvRq t A (tag, i)) : (0 ≤ i) ∧ (i ≤ (t.length : Int)) ∧ (ixG t i = A) ∧ (tag < 1) := h
def muRq (t : LB) (A : Int) (st : Nat × Int) : Nat := (t.length - (st.2).toNat)
abbrev RHRq (t : LB) (A : Int) (E' : Cx) (ex' : Ex) (epx' : LA) (hpx' : LE) (st : Nat × Int) (X : Nat → Value) : Prop := RoundH E' bodyRq keepRq 23 ex' 7 7 7 7 epRq hpRq epx' hpx' (InvRq t A) (muRq t A) (DRq t A) st X
noncomputable abbrev RNRq_0 (h : LK) (x : Ex) (th : LA) (sg : List (Nat × Nat)) (m : Nat) (ep : LA) (hp : LE) : Bool := okRdH (code (tbl h) 900 [] bodyRq (envOf (headOf epRq_0 keepRq) 23) ⟨lhSet hpRq_0 .leaf, 7, 0, 0⟩) x keepRq 23 7 th sg 7 m ep hp
theorem stRq_0 (t : LB) (A i : Int) {X : Nat → Value} {h : LK} (y : Nat × Int) {th : LA} {sg : List (Nat × Nat)} (ho : ∀ a' r', (a', r') ∈ h → HOk (cx (nuX (nuRq_0 t A i) (rX (roRq_0 t A i) X)) (nuX_one (nuL_one (l := nuRq_0 t A i) rfl)) 1 laidE laidE_stab) a' r') (hy : InvRq t A y) (lt : muRq t A y < muRq t A (0, i)) (ht : ThOk (cx (nuX (nuRq_0 t A i) (rX (roRq_0 t A i) X)) (nuX_one (nuL_one (l := nuRq_0 t A i) rfl)) 1 laidE laidE_stab) (DRq t A y X) th) (run : RNRq_0 h .normal th sg 7 (epRq y) (hpRq y) = true) : RHRq t A E' x' e' h' (0, i) X :=
  RoundH.next (tb := tbl h) (L := []) (f := 900) y ((tabkOk _ _).hyps ho) (LpOk.nil _) rfl hy lt ht run
theorem lvRq_0 (t : LB) (A i : Int) {X : Nat → Value} {h : LK} {th : LA} {sg : List (Nat × Nat)} (hne : exB x' .normal = false) (ho : ∀ a' r', (a', r') ∈ h → HOk (cx (nuX (nuRq_0 t A i) (rX (roRq_0 t A i) X)) (nuX_one (nuL_one (l := nuRq_0 t A i) rfl)) 1 laidE laidE_stab) a' r') (ht : ThOk (cx (nuX (nuRq_0 t A i) (rX (roRq_0 t A i) X)) (nuX_one (nuL_one (l := nuRq_0 t A i) rfl)) 1 laidE laidE_stab) E' th) (run : RNRq_0 h x' th sg 7 e' h' = true) : RHRq t A E' x' e' h' (0, i) X :=
  RoundH.leave (tb := tbl h) (L := []) (f := 900) ((tabkOk _ _).hyps ho) (LpOk.nil _) rfl hne ht run
def hyRq_p0 : LK := [(.len (.x 0), .x 2), (.bin .lss (.x 1) (.x 2), .b false)]
theorem runRq_p0 : RNRq_0 hyRq_p0 (.exit 0) [(0, .x 0)] [] 7 [(0, .x 0)] [] = true := by kernel_rfl
def hyRq_p1 : LK := [(.len (.x 0), .x 3), (.bin .lss (.x 1) (.x 3), .b true), (.idx (.x 0) (.x 1), .x 4), (.bin .eql (.x 4) (.i .u8 (.ofNat 63)), .b false), (.bin .add (.x 1) (.i .i64 (.ofNat 1)), .x 5)]
theorem runRq_p1 : RNRq_0 hyRq_p1 .normal [(0, .x 0), (1, .x 5)] [] 7 epRq_0 hpRq_0 = true := by kernel_rfl
theorem nxRq_p1 (t : LB) (A : Int) (c0 : t.length ≤ 140737488355328) (i : Int) (X : Nat → Value) (hI : InvRq t A (0, i)) (h0 : i < (t.length : Int)) (h1 : ¬ (bt t (Int.toNat (i)) = 63)) : RHRq t A E' x' e' h' (0, i) X := by
  obtain ⟨i0, i1, i2, it⟩ := unIRq t A 0 i hI
  have := bt_lo t (Int.toNat (i)); have := bt_hi t (Int.toNat (i))
  refine stRq_0 t A i (h := hyRq_p1) (0, (i + 1)) ?_ (mkIRq t A 0 (i + 1) ⟨by omega, by omega, ixG_n (by omega) (by omega) (by assumption) i2, by omega⟩) (by show t.length - (i + 1).toNat < t.length - i.toNat; omega) (thXv (v := St' t) rfl rfl (thXi (b := ((i + 1))) rfl rfl (by omega) (thNil))) runRq_p1
  unfold hyRq_p1
  exact hc (lnV rfl rfl (by omega)) <|
   hc (ltT rfl rfl (by omega)) <|
   hc (ixV rfl rfl rfl (by omega)) <|
   hc (eqcF rfl (by omega)) <|
   hc (adC rfl rfl (by omega)) <|
   hnil
def hyRq_p2 : LK := [(.len (.x 0), .x 6), (.bin .lss (.x 1) (.x 6), .b true), (.idx (.x 0) (.x 1), .x 7), (.bin .eql (.x 7) (.i .u8 (.ofNat 63)), .b true), (.sub (.x 0) none (some (.x 1)), .x 8), (.bin .add (.x 1) (.i .i64 (.ofNat 1)), .x 9), (.sub (.x 0) (some (.x 9)) none, .x 10)]
theorem runRq_p2 : RNRq_0 hyRq_p2 .ret [(0, .x 8), (1, .x 10)] [] 7 [(2, .x 0), (3, .x 1)] [] = true := by kernel_rfl
def nuERq_0 (t : LB) (A : Int) : List Value := [St' t]
def roERq_0 (t : LB) (A : Int) : List Value := []
noncomputable def ERq_0 (t : LB) (A : Int) : Cx := cx (nuX (nuERq_0 t A) (rX (roERq_0 t A) (fun _ => .bool true))) (nuX_one (nuL_one (l := nuERq_0 t A) rfl)) 1 laidE laidE_stab
theorem roundsRq_0 (t : LB) (A : Int) (c0 : t.length ≤ 140737488355328) (x0 : A < 0) (st : Nat × Int) (X : Nat → Value) (hI : InvRq t A st) : RHRq t A (ERq_0 t A) (.exit 0) [(0, .x 0)] [] st X := by
  obtain ⟨tag, i⟩ := st
  have hI0 := hI
  obtain ⟨i0, i1, i2, it⟩ := unIRq t A tag i hI
  obtain rfl : tag = 0 := by omega
  skip
  by_cases h0 : i < (t.length : Int)
  · by_cases h1 : bt t (Int.toNat (i)) = 63
    · exfalso; have e := ixG_y (by omega) (by omega) (by assumption) i2; omega
    · exact nxRq_p1 t A c0 i X hI0 h0 h1
  · skip
    refine lvRq_0 t A i (h := hyRq_p0) rfl ?_ (thXv (v := St' t) rfl rfl (thNil)) runRq_p0
    unfold hyRq_p0
    exact hc (lnV rfl rfl (by omega)) <|
     hc (ltF rfl rfl (by omega)) <|
     hnil
theorem lfOkRq_0 {l : LF} {h : LH} (t : LB) (A : Int) (c0 : t.length ≤ 140737488355328) (x0 : A < 0) (st : Nat × Int) (hI : InvRq t A st) (hl : l.hp = some h) (hs : lfSame l h 23 keepRq (.exit 0) 7 7 7 = true) {th0 : LA} {sg0 : List (Nat × Nat)} (hth0 : ∀ X, ThOk (cx nu one 1 laidE laidE_stab) (DRq t A st X) th0) (h0 : startOk l h 23 7 7 th0 sg0 (epRq st) (hpRq st) = true) {thx : LA} (hthx : ThOk (ERq_0 t A) (cx nu one 1 laidE laidE_stab) thx) (hx : exitOk l h 23 7 7 thx [(0, .x 0)] [] = true) : LfOk (cx nu one 1 laidE laidE_stab) bodyRq l :=
  lfOkX (E := ERq_0 t A) (InvRq t A) (muRq t A) (DRq t A) (fun _ _ => rfl) (fun _ _ => rfl) (fun _ _ => rfl) (fun st X t ht => nuX_keep.trans (rX_keep ((by decide : ∀ t, t ∈ keepRq → t < 1000000) t ht))) rfl rfl rfl hl hs ebRq rfl rfl st hI hth0 h0 hthx hx (roundsRq_0 t A c0 x0)
def nuERq_1 (t : LB) (A : Int) : List Value := [St' (List.take (Int.toNat A) t), St' (List.drop (Int.toNat (A + 1)) t)]
def roERq_1 (t : LB) (A : Int) : List Value := []
noncomputable def ERq_1 (t : LB) (A : Int) : Cx := cx (nuX (nuERq_1 t A) (rX (roERq_1 t A) (fun _ => .bool true))) (nuX_one (nuL_one (l := nuERq_1 t A) rfl)) 1 laidE laidE_stab
theorem roundsRq_1 (t : LB) (A : Int) (c0 : t.length ≤ 140737488355328) (x0 : 0 ≤ A) (st : Nat × Int) (X : Nat → Value) (hI : InvRq t A st) : RHRq t A (ERq_1 t A) .ret [(2, .x 0), (3, .x 1)] [] st X := by
  obtain ⟨tag, i⟩ := st
  have hI0 := hI
  obtain ⟨i0, i1, i2, it⟩ := unIRq t A tag i hI
  obtain rfl : tag = 0 := by omega
  skip
  by_cases h0 : i < (t.length : Int)
  · by_cases h1 : bt t (Int.toNat (i)) = 63
    · skip
      have := bt_lo t (Int.toNat (i)); have := bt_hi t (Int.toNat (i))
      have := lenTake (l := t) (Q := i) (by omega) (by omega)
      have := lenDrop (l := t) (P := i + 1) (by omega) (by omega)
      refine lvRq_0 t A i (h := hyRq_p2) rfl ?_ (thXe (v := St' (List.take (Int.toNat (i)) t)) (u := St' (List.take (Int.toNat A) t)) rfl rfl (congrArg (fun l => St' l) (by rw [ixG_y (by omega) (by omega) (by assumption) i2])) (thXe (v := St' (List.drop (Int.toNat (i + 1)) t)) (u := St' (List.drop (Int.toNat (A + 1)) t)) rfl rfl (congrArg (fun l => St' l) (by rw [ixG_y (by omega) (by omega) (by assumption) i2])) (thNil))) runRq_p2
      unfold hyRq_p2
      exact hc (lnV rfl rfl (by omega)) <|
       hc (ltT rfl rfl (by omega)) <|
       hc (ixV rfl rfl rfl (by omega)) <|
       hc (eqcT rfl (by omega)) <|
       hc (tkV rfl rfl rfl (by omega)) <|
       hc (adC rfl rfl (by omega)) <|
       hc (drV rfl rfl rfl (by omega)) <|
       hnil
    · exact nxRq_p1 t A c0 i X hI0 h0 h1
  · exfalso; have e := ixG_e (by omega) i2; omega
theorem lfOkRq_1 {l : LF} {h : LH} (t : LB) (A : Int) (c0 : t.length ≤ 140737488355328) (x0 : 0 ≤ A) (st : Nat × Int) (hI : InvRq t A st) (hl : l.hp = some h) (hs : lfSame l h 23 keepRq .ret 7 7 7 = true) {th0 : LA} {sg0 : List (Nat × Nat)} (hth0 : ∀ X, ThOk (cx nu one 1 laidE laidE_stab) (DRq t A st X) th0) (h0 : startOk l h 23 7 7 th0 sg0 (epRq st) (hpRq st) = true) {thx : LA} (hthx : ThOk (ERq_1 t A) (cx nu one 1 laidE laidE_stab) thx) (hx : exitOk l h 23 7 7 thx [(2, .x 0), (3, .x 1)] [] = true) : LfOk (cx nu one 1 laidE laidE_stab) bodyRq l :=
  lfOkX (E := ERq_1 t A) (InvRq t A) (muRq t A) (DRq t A) (fun _ _ => rfl) (fun _ _ => rfl) (fun _ _ => rfl) (fun st X t ht => nuX_keep.trans (rX_keep ((by decide : ∀ t, t ∈ keepRq → t < 1000000) t ht))) rfl rfl rfl hl hs ebRq rfl rfl st hI hth0 h0 hthx hx (roundsRq_1 t A c0 x0)
noncomputable def fi9 : FI := (tabk.fn.get 9).getD default
theorem fi9_at : tabk.fn.get 9 = some fi9 := by kernel_rfl
theorem fi9_body : fi9.body = some (Tryd.f9.body.getD .skip) := by kernel_rfl
theorem fiB9 : fi9.body.isSome = true := by rw [fi9_body]; rfl
theorem cfA9 : (loopsOf (Tryd.f9.body.getD .skip)).all (fun b => !(keyEq (Go.AX.keyOf b) 8888888)) = true := by kernel_rfl
def hyRqs_0 : LK := []
def lh42 : LH := ⟨7, 7, 7, [], []⟩
def lf42 : LF := ⟨2, 23, [(0, .x 0), (4, .i .i64 (.ofNat 0))], [], (.exit 0), [(0, .x 1)], some lh42⟩
noncomputable def tabRqs_0 : Tab := addLps ({ tabk with hyp := hyRqs_0 }) 9 fi9 [lf42]
theorem runRqs_0 (e : Nat) : okA (call tabRqs_0 9000 9 [.x 0] ⟨H0 e , 7, 0, 0⟩) (.tu [.x 1, .s 0 0]) = true := by kernel_rfl
def nuRqs_0 (t : LB) : List Value := [St' t, St' t]
theorem pathRqs_0 (t : LB) (b0 : t.length ≤ 9223372036854775807) (p0 : t.length ≤ 140737488355328) (h0 : idxB t 63 < 0) (w : World) (hl : laidE w) : CwR 9 #[St' t] w (.tuple #[St' t, St' ([] : LB)]) := by
  have := ix_bd t 63
  have ho : ∀ k r, (k, r) ∈ hyRqs_0 → HOk (cx (nuL (nuRqs_0 t)) (fun j _ => nuL_one (l := nuRqs_0 t) rfl j) 1 laidE laidE_stab) k r := by
    unfold hyRqs_0
    exact hnil
  refine runC (tb := tabRqs_0) (ra := .tu [.x 1, .s 0 0]) rfl (AllOk.lp1 ((tabkOk (nuL (nuRqs_0 t)) (fun j _ => nuL_one (l := nuRqs_0 t) rfl j)).hyps ho) (by omega) fi9_at fi9_body (lfCons (lpKnown rfl ⟨0, keyRq, lfOkRq_0 (l := lf42) (h := lh42) t (idxB t 63) (by omega) (by omega) (0, (0 : Int)) (mkIRq t (idxB t 63) 0 (0 : Int) ⟨by omega, by omega, ixG_0 t, by omega⟩) rfl (by kernel_rfl) (th0 := [(0, .x 0), (1, .i .i64 (.ofNat 0))]) (sg0 := []) (fun X => thXv (v := St' t) rfl rfl (thCons (show Is _ (.i .i64 (.ofNat 0)) (.int .i64 ((0 : Int))) from isTo (v := .int .i64 0) (isI _ _) (by first | rfl | (congr 1; omega))) (thNil))) (by kernel_rfl) (thx := [(1, .x 0)]) (thXv (v := St' t) rfl rfl (thNil)) (by kernel_rfl)⟩) lfNil)) rfl (get_lps (by omega)) fiB9 (fun e => runRqs_0 e ) (args := [St' t]) (by simp only [RelL, Rel]; exact ⟨_, _, rfl, rfl, rfl⟩) w hl fun x hx => ?_
  simp only [Rel, RelL] at hx
  obtain ⟨_, rfl, ⟨_, _, rfl, rfl, ⟨_, _, rfl, ⟨rfl, _⟩, rfl⟩⟩⟩ := hx
  rfl
def hyRqs_1 : LK := []
def lh43 : LH := ⟨7, 7, 7, [], []⟩
def lf43 : LF := ⟨2, 23, [(0, .x 0), (4, .i .i64 (.ofNat 0))], [], .ret, [(2, .x 1), (3, .x 2)], some lh43⟩
noncomputable def tabRqs_1 : Tab := addLps ({ tabk with hyp := hyRqs_1 }) 9 fi9 [lf43]
theorem runRqs_1 (e : Nat) : okA (call tabRqs_1 9000 9 [.x 0] ⟨H0 e , 7, 0, 0⟩) (.tu [.x 1, .x 2]) = true := by kernel_rfl
def nuRqs_1 (t : LB) : List Value := [St' t, St' (List.take (Int.toNat (idxB t 63)) t), St' (List.drop (Int.toNat ((idxB t 63) + 1)) t)]
theorem pathRqs_1 (t : LB) (b0 : t.length ≤ 9223372036854775807) (p0 : t.length ≤ 140737488355328) (h0 : ¬ (idxB t 63 < 0)) (w : World) (hl : laidE w) : CwR 9 #[St' t] w (.tuple #[St' (List.take (Int.toNat (idxB t 63)) t), St' (List.drop (Int.toNat ((idxB t 63) + 1)) t)]) := by
  have := ix_bd t 63
  have ho : ∀ k r, (k, r) ∈ hyRqs_1 → HOk (cx (nuL (nuRqs_1 t)) (fun j _ => nuL_one (l := nuRqs_1 t) rfl j) 1 laidE laidE_stab) k r := by
    unfold hyRqs_1
    exact hnil
  refine runC (tb := tabRqs_1) (ra := .tu [.x 1, .x 2]) rfl (AllOk.lp1 ((tabkOk (nuL (nuRqs_1 t)) (fun j _ => nuL_one (l := nuRqs_1 t) rfl j)).hyps ho) (by omega) fi9_at fi9_body (lfCons (lpKnown rfl ⟨0, keyRq, lfOkRq_1 (l := lf43) (h := lh43) t (idxB t 63) (by omega) (by omega) (0, (0 : Int)) (mkIRq t (idxB t 63) 0 (0 : Int) ⟨by omega, by omega, ixG_0 t, by omega⟩) rfl (by kernel_rfl) (th0 := [(0, .x 0), (1, .i .i64 (.ofNat 0))]) (sg0 := []) (fun X => thXv (v := St' t) rfl rfl (thCons (show Is _ (.i .i64 (.ofNat 0)) (.int .i64 ((0 : Int))) from isTo (v := .int .i64 0) (isI _ _) (by first | rfl | (congr 1; omega))) (thNil))) (by kernel_rfl) (thx := [(1, .x 0), (2, .x 1)]) (thXv (v := St' (List.take (Int.toNat (idxB t 63)) t)) rfl rfl (thXv (v := St' (List.drop (Int.toNat ((idxB t 63) + 1)) t)) rfl rfl (thNil))) (by kernel_rfl)⟩) lfNil)) rfl (get_lps (by omega)) fiB9 (fun e => runRqs_1 e ) (args := [St' t]) (by simp only [RelL, Rel]; exact ⟨_, _, rfl, rfl, rfl⟩) w hl fun x hx => ?_
  simp only [Rel, RelL] at hx
  obtain ⟨_, rfl, ⟨_, _, rfl, rfl, ⟨_, _, rfl, rfl, rfl⟩⟩⟩ := hx
  rfl
theorem callsRqs (t : LB) (b0 : t.length ≤ 9223372036854775807) (p0 : t.length ≤ 140737488355328) (w : World) (hl : laidE w) : CwR 9 #[St' t] w ((.tuple #[St' (qsA t), St' (qsB t)])) := by
  by_cases h0 : idxB t 63 < 0
  · rw [show ((.tuple #[St' (qsA t), St' (qsB t)]) : Value) = (.tuple #[St' t, St' ([] : LB)] : Value) from by first | exact qs_n (by assumption) | exact qs_y (by omega)]
    exact pathRqs_0 t b0 p0 h0 w hl
  · rw [show ((.tuple #[St' (qsA t), St' (qsB t)]) : Value) = (.tuple #[St' (List.take (Int.toNat (idxB t 63)) t), St' (List.drop (Int.toNat ((idxB t 63) + 1)) t)] : Value) from by first | exact qs_n (by assumption) | exact qs_y (by omega)]
    exact pathRqs_1 t b0 p0 h0 w hl
theorem hokRqs {x0 r : AV} {t : LB} (i0 : Is (cx nu one 1 laidE laidE_stab) x0 (St' t)) (hr : Den (cx nu one 1 laidE laidE_stab) r ((.tuple #[St' (qsA t), St' (qsB t)]))) (b0 : t.length ≤ 9223372036854775807) (p0 : t.length ≤ 140737488355328) : HOk (cx nu one 1 laidE laidE_stab) (.call 9 [x0]) r := by
  intro ρ args ha w hl _
  simp only [RelL] at ha
  obtain ⟨v0, t0, rfl, a0, rfl⟩ := ha
  have e0 := i0 ρ _ a0; subst e0
  exact (callsRqs t b0 p0 w hl).mono fun e w' he => ⟨_, he.1, hr ρ, he.2⟩
noncomputable def fi19 : FI := (tabk.fn.get 19).getD default
theorem fi19_at : tabk.fn.get 19 = some fi19 := by kernel_rfl
theorem fi19_body : fi19.body = some (Tryd.f19.body.getD .skip) := by kernel_rfl
theorem fiB19 : fi19.body.isSome = true := by rw [fi19_body]; rfl
theorem cfA19 : (loopsOf (Tryd.f19.body.getD .skip)).all (fun b => !(keyEq (Go.AX.keyOf b) 8888888)) = true := by kernel_rfl
def aPAsy0 : List AV := [.ifc 60 (.ag [.x 0, .x 1]), .ifc 48 (.p 183 0)]
def hpAsy0 : LE := [(183, .b ⟨40, .l [.i .i64 (.ofNat 0)], 0, 0, 0, false, false⟩)]
def nuAsy0 (k : Int) (u : LB) : List Value := [.int .i64 (k), St' u]
def roAsy0 (k : Int) (u : LB) : List Value := []
noncomputable def DAsy0 (k : Int) (u : LB) : Cx := cx (nuX (nuAsy0 k u) (rX (roAsy0 k u) (fun _ => .bool true))) (nuX_one (nuL_one (l := nuAsy0 k u) rfl)) 1 laidE laidE_stab
def hyAsy0_c0 : LK := []
noncomputable def tbAsy0_c0 : Tab := (tbl hyAsy0_c0)
theorem runAsy0_c0 (e : Nat) : okCf (call tbAsy0_c0 3000 19 aPAsy0 ⟨lhSet hpAsy0 ((fun e : Nat => H0 e) e), 190, 0, 0⟩) (.b true) [(0, .x 0)] [] 190 200 [(183, .b ⟨40, .l [.x 0], 0, 0, 0, false, false⟩)] = true := by kernel_rfl
def nuEAsy0_0 (k : Int) (u : LB) : List Value := [.int .i64 (k)]
def roEAsy0_0 (k : Int) (u : LB) : List Value := []
noncomputable def EAsy0_0 (k : Int) (u : LB) : Cx := cx (nuX (nuEAsy0_0 k u) (rX (roEAsy0_0 k u) (fun _ => .bool true))) (nuX_one (nuL_one (l := nuEAsy0_0 k u) rfl)) 1 laidE laidE_stab
theorem cfAsy0_0 {l : LF} {h : LH} {q : Nat × AV} (k : Int) (u : LB) (hl : l.hp = some h) (hq : l.post = [q]) (hs : cfSame l h 7 190 200 = true) {th0 : LA} {sg0 : List (Nat × Nat)} (hth0 : ThOk (cx nu one 1 laidE laidE_stab) (DAsy0 k u) th0) (h0 : (inAs th0 (sgB 190 190 sg0) aPAsy0 (l.pre.map (·.2)) && inHeap 190 190 th0 sg0 (lhSet h.pre .leaf) hpAsy0 && nodupN (numsOf 190 sg0 hpAsy0)) = true) {thx : LA} (hthx : ThOk (EAsy0_0 k u) (cx nu one 1 laidE laidE_stab) thx) (hx : (inA thx (sgB 190 200 []) 8 q.2 (.b true) && inHeap 190 200 thx [] (lhSet [(183, .b ⟨40, .l [.x 0], 0, 0, 0, false, false⟩)] .leaf) h.post && nodupN (numsOf 190 [] h.post)) = true) : CfOk (cx nu one 1 laidE laidE_stab) 19 l := by
  skip
  have ho : ∀ a' r', (a', r') ∈ hyAsy0_c0 → HOk (DAsy0 k u) a' r' := by
    unfold hyAsy0_c0
    exact hnil
  exact cfOkX (D := DAsy0 k u) (E := EAsy0_0 k u) (Gf := (fun e : Nat => H0 e)) (f := 3000) (tb := tbAsy0_c0) rfl rfl rfl rfl rfl rfl hl hq hs rfl hth0 h0 hthx hx ((tabkOk _ _).hyps ho) rfl fi19_at fiB19 (.inr ⟨rfl, fun w hi => hGl (C := DAsy0 k u) rfl rfl hi⟩) (thXv (v := .int .i64 (k)) rfl rfl (thNil)) runAsy0_c0
noncomputable def fi3 : FI := (tabk.fn.get 3).getD default
theorem fi3_at : tabk.fn.get 3 = some fi3 := by kernel_rfl
theorem fi3_body : fi3.body = some (Tryd.f3.body.getD .skip) := by kernel_rfl
theorem fiB3 : fi3.body.isSome = true := by rw [fi3_body]; rfl
theorem cfA3 : (loopsOf (Tryd.f3.body.getD .skip)).all (fun b => !(keyEq (Go.AX.keyOf b) 8888888)) = true := by kernel_rfl
end Go.Proofs.YtalblkipoopdgaaDoor.startTells
