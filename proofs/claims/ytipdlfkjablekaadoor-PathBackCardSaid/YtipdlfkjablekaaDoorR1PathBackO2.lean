/- A part of the proof: an interpreter of the model's own code on partly known states, and that what it answers is what the program answers. No condition of its own. -/
import Derived.Test.YtipdlfkjablekaaDoorR1PathBackO
set_option maxRecDepth 100000
set_option linter.unusedVariables false
set_option linter.unusedSimpArgs false
set_option maxHeartbeats 4000000
namespace Go.Proofs.YtipdlfkjablekaaDoor.pathBack
open Go Go.AX Go.Proofs Go.Proofs.YtipdlfkjablekaaDoor
variable {nu : Nat → Value} {one : ∀ i, i < 1000000 → (nu i).oneCell' = true} {E' : Cx} {x' : Ex} {e' : LA} {h' : LE}
theorem unS_getD_len (e : LB) : ((unS e).getD []).length ≤ e.length := by
  cases h : unS e with
  | none => simp
  | some t => exact (unS_len h).1
theorem pb_at {s : LB} {i : Int} (h0 : 0 ≤ i) (h : i < s.length) : (s.drop (Int.toNat i)).any pbB = (tb8 MPb (bt s (Int.toNat (i))) || (s.drop (Int.toNat (i + 1))).any pbB) := by
  have e : s.drop i.toNat = u8 (bt s i.toNat) :: s.drop (i.toNat + 1) := by
    rw [List.drop_eq_getElem_cons (by omega), u8_bt, List.getD_eq_getElem?_getD, List.getElem?_eq_getElem (by omega), Option.getD_some]
  rw [e, List.any_cons, pbB, u8_toNat (bt_lo _ _) (bt_hi _ _), show (i + 1).toNat = i.toNat + 1 by omega]
theorem pb_no {s : LB} {i : Int} {A : Bool} (h0 : 0 ≤ i) (h : i < s.length) (hb : tb8 MPb (bt s (Int.toNat (i))) = false) (hA : (s.drop (Int.toNat i)).any pbB = A) : (s.drop (Int.toNat (i + 1))).any pbB = A := by
  rw [pb_at h0 h, hb, Bool.false_or] at hA; exact hA
theorem pb_yes {s : LB} {i : Int} {A : Bool} (h0 : 0 ≤ i) (h : i < s.length) (hb : tb8 MPb (bt s (Int.toNat (i))) = true) (hA : (s.drop (Int.toNat i)).any pbB = A) : A = true := by
  rw [pb_at h0 h, hb, Bool.true_or] at hA; exact hA.symm
theorem pb_end {s : LB} {i : Int} {A : Bool} (h : (s.length : Int) ≤ i) (hA : (s.drop (Int.toNat i)).any pbB = A) : A = false := by
  rw [List.drop_eq_nil_of_le (by omega)] at hA; exact hA.symm
def mByt : LB := [u8 97, u8 32, u8 112, u8 97, u8 116, u8 104, u8 32, u8 119, u8 105, u8 116, u8 104, u8 32, u8 97, u8 32, u8 98, u8 121, u8 116, u8 101, u8 32, u8 116, u8 104, u8 97, u8 116, u8 32, u8 109, u8 97, u8 121, u8 32, u8 110, u8 111, u8 116, u8 32, u8 98, u8 101]
def mOut : LB := [u8 97, u8 32, u8 112, u8 97, u8 116, u8 104, u8 32, u8 116, u8 104, u8 97, u8 116, u8 32, u8 108, u8 101, u8 97, u8 100, u8 115, u8 32, u8 111, u8 117, u8 116]
def mHd : LB := [u8 97, u8 32, u8 112, u8 97, u8 116, u8 104, u8 32, u8 116, u8 104, u8 97, u8 116, u8 32, u8 100, u8 111, u8 101, u8 115, u8 110, u8 39, u8 116, u8 32, u8 98, u8 101, u8 103, u8 105, u8 110, u8 32, u8 119, u8 105, u8 116, u8 104, u8 32, u8 97, u8 32, u8 115, u8 108, u8 97, u8 115, u8 104]
abbrev dcS (r : LB) : Option LB := decG unS r
def dcM (r : LB) : LB := if unS r = none then unM r else mByt
theorem dc_n1 {s : LB} (h : unS s = none) : dcS s = none ∧ dcM s = unM s := by
  refine ⟨by unfold dcS decG; rw [h], if_pos h⟩
theorem dc_n2 {s : LB} (h : ¬ unS s = none) (hb : ((unS s).getD []).any pbB = true) : dcS s = none ∧ dcM s = mByt := by
  refine ⟨?_, if_neg h⟩
  unfold dcS decG
  cases e : unS s with
  | none => rfl
  | some t => rw [e] at hb; exact if_pos hb
theorem dc_s {s : LB} (h : ¬ unS s = none) (hb : ¬ ((unS s).getD []).any pbB = true) : ¬ dcS s = none ∧ (dcS s).getD [] = (unS s).getD [] := by
  unfold dcS decG
  cases e : unS s with
  | none => exact absurd e h
  | some t => rw [e] at hb; simp only; rw [if_neg (show ¬ t.any pbB = true from hb)]; exact ⟨by simp, rfl⟩
theorem dcS_len (e : LB) : ((dcS e).getD []).length ≤ e.length := by
  by_cases h : unS e = none
  · rw [(dc_n1 h).1]; simp
  · by_cases hb : ((unS e).getD []).any pbB = true
    · rw [(dc_n2 h hb).1]; simp
    · rw [(dc_s h hb).2]; exact unS_getD_len e
theorem pbF0 {c : Int} (h0 : 0 ≤ c) (h1 : c ≤ 255) (a0 : c < 32) : tb8 MPb c = true := by
  obtain ⟨n, rfl⟩ := Int.eq_ofNat_of_zero_le h0
  have h : ∀ m : Fin 256, (((m.val : Nat) : Int) < 32) → tb8 MPb ((m.val : Nat) : Int) = true := by decide +kernel
  exact h ⟨n, by omega⟩ a0
theorem pbF1 {c : Int} (h0 : 0 ≤ c) (h1 : c ≤ 255) (a0 : c = 127) : tb8 MPb c = true := by
  obtain ⟨n, rfl⟩ := Int.eq_ofNat_of_zero_le h0
  have h : ∀ m : Fin 256, (((m.val : Nat) : Int) = 127) → tb8 MPb ((m.val : Nat) : Int) = true := by decide +kernel
  exact h ⟨n, by omega⟩ a0
theorem pbF2 {c : Int} (h0 : 0 ≤ c) (h1 : c ≤ 255) (a0 : c = 47) : tb8 MPb c = true := by
  obtain ⟨n, rfl⟩ := Int.eq_ofNat_of_zero_le h0
  have h : ∀ m : Fin 256, (((m.val : Nat) : Int) = 47) → tb8 MPb ((m.val : Nat) : Int) = true := by decide +kernel
  exact h ⟨n, by omega⟩ a0
theorem pbF3 {c : Int} (h0 : 0 ≤ c) (h1 : c ≤ 255) (a0 : ¬ (c < 32)) (a1 : ¬ (c = 127)) (a2 : ¬ (c = 47)) : tb8 MPb c = false := by
  obtain ⟨n, rfl⟩ := Int.eq_ofNat_of_zero_le h0
  have h : ∀ m : Fin 256, (¬ (((m.val : Nat) : Int) < 32)) → (¬ (((m.val : Nat) : Int) = 127)) → (¬ (((m.val : Nat) : Int) = 47)) → tb8 MPb ((m.val : Nat) : Int) = false := by decide +kernel
  exact h ⟨n, by omega⟩ a0 a1 a2
noncomputable def bodyDc : Code := loopNo (Tryd.f14.body.getD .skip) 0
theorem keyDc : oneKey (loopsOf (Tryd.f14.body.getD .skip)) 5 0 0 = true := by kernel_rfl
def keepDc : List Nat := []
def epDc_0 : LA := [(2, .s 0 0), (3, .ni), (4, .x 0), (16, .x 0), (17, .x 2), (18, .x 1)]
def hpDc_0 : LE := []
def nuDc_0 (s : LB) (A : Bool) (i : Int) : List Value := [St' s, .int .i64 (i), .int .i64 ((s.length : Int)), St' ([] : LB), St' ([] : LB), .int .u8 (bt s (Int.toNat (i))), .int .i64 (i + 1), St' ([] : LB), .int .u8 (bt s (Int.toNat (i))), St' ([] : LB), .int .u8 (bt s (Int.toNat (i))), St' ([] : LB), .int .u8 (bt s (Int.toNat (i)))]
def roDc_0 (s : LB) (A : Bool) (i : Int) : List Value := [rwS ([] : List LB), rwS ([] : List LB), rwS ([] : List LB), rwS ([] : List LB), rwS ([] : List LB)]
def epDc (st : Nat × Int) : LA := epDc_0
def hpDc (st : Nat × Int) : LE := hpDc_0
def nuDc (s : LB) (A : Bool) (st : Nat × Int) : List Value := nuDc_0 s A (st.2)
def roDc (s : LB) (A : Bool) (st : Nat × Int) : List Value := roDc_0 s A (st.2)
theorem onDc (s : LB) (A : Bool) (st : Nat × Int) : ∀ j, (nuL (nuDc s A st) j).oneCell' = true := by
  intro j
  unfold nuDc
  exact nuL_one (l := nuDc_0 s A (st.2)) rfl j
theorem ebDc (st : Nat × Int) : (lfB (epDc st) && lfC keepDc) = true := by
  unfold epDc
  rfl
noncomputable def DDc (s : LB) (A : Bool) (st : Nat × Int) (X : Nat → Value) : Cx := cx (nuX (nuDc s A st) (rX (roDc s A st) X)) (nuX_one (onDc s A st)) 0 laidE laidE_stab
def InvDc (s : LB) (A : Bool) (st : Nat × Int) : Prop := (0 ≤ (st.2)) ∧ ((st.2) ≤ (s.length : Int)) ∧ ((s.drop (Int.toNat (st.2))).any pbB = A) ∧ ((st.1) < 1)
abbrev CjDc (s : LB) (A : Bool) (tag : Nat) (i : Int) : Prop := (0 ≤ i) ∧ (i ≤ (s.length : Int)) ∧ ((s.drop (Int.toNat i)).any pbB = A) ∧ (tag < 1)
theorem mkIDc (s : LB) (A : Bool) (tag : Nat) (i : Int) (h : CjDc s A tag i) : InvDc s A (tag, i) := h
theorem unIDc (s : LB) (A : Bool) (tag : Nat) (i : Int) (h : InvDc s A (tag, i)) : (0 ≤ i) ∧ (i ≤ (s.length : Int)) ∧ ((s.drop (Int.toNat i)).any pbB = A) ∧ (tag < 1) := h
def muDc (s : LB) (A : Bool) (st : Nat × Int) : Nat := (s.length - (st.2).toNat)
abbrev RHDc (s : LB) (A : Bool) (E' : Cx) (ex' : Ex) (epx' : LA) (hpx' : LE) (st : Nat × Int) (X : Nat → Value) : Prop := RoundH E' bodyDc keepDc 36 ex' 3 3 3 3 epDc hpDc epx' hpx' (InvDc s A) (muDc s A) (DDc s A) st X
noncomputable abbrev RNDc_0 (h : LK) (x : Ex) (th : LA) (sg : List (Nat × Nat)) (m : Nat) (ep : LA) (hp : LE) : Bool := okRdH (code (tbl h) 900 [] bodyDc (envOf (headOf epDc_0 keepDc) 36) ⟨lhSet hpDc_0 .leaf, 3, 0, 0⟩) x keepDc 36 3 th sg 3 m ep hp
theorem stDc_0 (s : LB) (A : Bool) (i : Int) {X : Nat → Value} {h : LK} (y : Nat × Int) {th : LA} {sg : List (Nat × Nat)} (ho : ∀ a' r', (a', r') ∈ h → HOk (cx (nuX (nuDc_0 s A i) (rX (roDc_0 s A i) X)) (nuX_one (nuL_one (l := nuDc_0 s A i) rfl)) 0 laidE laidE_stab) a' r') (hy : InvDc s A y) (lt : muDc s A y < muDc s A (0, i)) (ht : ThOk (cx (nuX (nuDc_0 s A i) (rX (roDc_0 s A i) X)) (nuX_one (nuL_one (l := nuDc_0 s A i) rfl)) 0 laidE laidE_stab) (DDc s A y X) th) (run : RNDc_0 h .normal th sg 3 (epDc y) (hpDc y) = true) : RHDc s A E' x' e' h' (0, i) X :=
  RoundH.next (tb := tbl h) (L := []) (f := 900) y ((tabkOk _ _).hyps ho) (LpOk.nil _) rfl hy lt ht run
theorem lvDc_0 (s : LB) (A : Bool) (i : Int) {X : Nat → Value} {h : LK} {th : LA} {sg : List (Nat × Nat)} (hne : exB x' .normal = false) (ho : ∀ a' r', (a', r') ∈ h → HOk (cx (nuX (nuDc_0 s A i) (rX (roDc_0 s A i) X)) (nuX_one (nuL_one (l := nuDc_0 s A i) rfl)) 0 laidE laidE_stab) a' r') (ht : ThOk (cx (nuX (nuDc_0 s A i) (rX (roDc_0 s A i) X)) (nuX_one (nuL_one (l := nuDc_0 s A i) rfl)) 0 laidE laidE_stab) E' th) (run : RNDc_0 h x' th sg 3 e' h' = true) : RHDc s A E' x' e' h' (0, i) X :=
  RoundH.leave (tb := tbl h) (L := []) (f := 900) ((tabkOk _ _).hyps ho) (LpOk.nil _) rfl hne ht run
def hyDc_p0 : LK := [(.rn, .x 2000000), (.bytes [], .x 3), (.bin .lss (.x 1) (.x 2), .b false)]
theorem runDc_p0 : RNDc_0 hyDc_p0 (.exit 0) [(0, .x 0)] [] 3 [(2, .s 0 0), (3, .ni), (4, .x 0)] [] = true := by kernel_rfl
def hyDc_p1 : LK := [(.rn, .x 2000001), (.bytes [], .x 4), (.bin .lss (.x 1) (.x 2), .b true), (.idx (.x 0) (.x 1), .x 5), (.bin .lss (.x 5) (.i .u8 (.ofNat 32)), .b false), (.bin .eql (.x 5) (.i .u8 (.ofNat 127)), .b false), (.bin .eql (.x 5) (.i .u8 (.ofNat 47)), .b false), (.bin .add (.x 1) (.i .i64 (.ofNat 1)), .x 6)]
theorem runDc_p1 : RNDc_0 hyDc_p1 .normal [(0, .x 0), (1, .x 6), (2, .x 2)] [] 3 epDc_0 hpDc_0 = true := by kernel_rfl
theorem nxDc_p1 (s : LB) (A : Bool) (c0 : s.length ≤ 140737488355328) (i : Int) (X : Nat → Value) (hI : InvDc s A (0, i)) (h0 : i < (s.length : Int)) (h1 : ¬ (bt s (Int.toNat (i)) < 32)) (h2 : ¬ (bt s (Int.toNat (i)) = 127)) (h3 : ¬ (bt s (Int.toNat (i)) = 47)) : RHDc s A E' x' e' h' (0, i) X := by
  obtain ⟨i0, i1, i2, it⟩ := unIDc s A 0 i hI
  have := bt_lo s (Int.toNat (i)); have := bt_hi s (Int.toNat (i))
  refine stDc_0 s A i (h := hyDc_p1) (0, (i + 1)) ?_ (mkIDc s A 0 (i + 1) ⟨by omega, by omega, pb_no (by omega) (by omega) (pbF3 (bt_lo _ _) (bt_hi _ _) (by assumption) (by assumption) (by assumption)) i2, by omega⟩) (by show s.length - (i + 1).toNat < s.length - i.toNat; omega) (thXv (v := St' s) rfl rfl (thXi (b := ((i + 1))) rfl rfl (by omega) (thXv (v := .int .i64 ((s.length : Int))) rfl rfl (thNil)))) runDc_p1
  unfold hyDc_p1
  exact hc (kRn (denX rfl)) <|
   hc (kBytesB (bs := ([] : LB)) .nil (denX rfl)) <|
   hc (ltT rfl rfl (by omega)) <|
   hc (ixV rfl rfl rfl (by omega)) <|
   hc (ltcF rfl (by omega)) <|
   hc (eqcF rfl (by omega)) <|
   hc (eqcF rfl (by omega)) <|
   hc (adC rfl rfl (by omega)) <|
   hnil
def hyDc_p2 : LK := [(.rn, .x 2000002), (.bytes [], .x 7), (.bin .lss (.x 1) (.x 2), .b true), (.idx (.x 0) (.x 1), .x 8), (.bin .lss (.x 8) (.i .u8 (.ofNat 32)), .b false), (.bin .eql (.x 8) (.i .u8 (.ofNat 127)), .b false), (.bin .eql (.x 8) (.i .u8 (.ofNat 47)), .b true)]
theorem runDc_p2 : RNDc_0 hyDc_p2 .ret [] [] 3 [(2, .s 0 0), (3, .ifc 48 (.ag [.i .i64 (.ofNat 10), .s 34 3005282563799781573393914916697283980865317069800478624488273387950561852790939745]))] [] = true := by kernel_rfl
def hyDc_p3 : LK := [(.rn, .x 2000003), (.bytes [], .x 9), (.bin .lss (.x 1) (.x 2), .b true), (.idx (.x 0) (.x 1), .x 10), (.bin .lss (.x 10) (.i .u8 (.ofNat 32)), .b false), (.bin .eql (.x 10) (.i .u8 (.ofNat 127)), .b true)]
theorem runDc_p3 : RNDc_0 hyDc_p3 .ret [] [] 3 [(2, .s 0 0), (3, .ifc 48 (.ag [.i .i64 (.ofNat 10), .s 34 3005282563799781573393914916697283980865317069800478624488273387950561852790939745]))] [] = true := by kernel_rfl
def hyDc_p4 : LK := [(.rn, .x 2000004), (.bytes [], .x 11), (.bin .lss (.x 1) (.x 2), .b true), (.idx (.x 0) (.x 1), .x 12), (.bin .lss (.x 12) (.i .u8 (.ofNat 32)), .b true)]
theorem runDc_p4 : RNDc_0 hyDc_p4 .ret [] [] 3 [(2, .s 0 0), (3, .ifc 48 (.ag [.i .i64 (.ofNat 10), .s 34 3005282563799781573393914916697283980865317069800478624488273387950561852790939745]))] [] = true := by kernel_rfl
def nuEDc_0 (s : LB) (A : Bool) : List Value := [St' s]
def roEDc_0 (s : LB) (A : Bool) : List Value := []
noncomputable def EDc_0 (s : LB) (A : Bool) : Cx := cx (nuX (nuEDc_0 s A) (rX (roEDc_0 s A) (fun _ => .bool true))) (nuX_one (nuL_one (l := nuEDc_0 s A) rfl)) 0 laidE laidE_stab
theorem roundsDc_0 (s : LB) (A : Bool) (c0 : s.length ≤ 140737488355328) (x0 : A = false) (st : Nat × Int) (X : Nat → Value) (hI : InvDc s A st) : RHDc s A (EDc_0 s A) (.exit 0) [(2, .s 0 0), (3, .ni), (4, .x 0)] [] st X := by
  obtain ⟨tag, i⟩ := st
  have hI0 := hI
  obtain ⟨i0, i1, i2, it⟩ := unIDc s A tag i hI
  obtain rfl : tag = 0 := by omega
  skip
  by_cases h0 : i < (s.length : Int)
  · by_cases h1 : bt s (Int.toNat (i)) < 32
    · exfalso; have e := pb_yes (by omega) (by omega) (by first | exact pbF0 (bt_lo _ _) (bt_hi _ _) (by assumption) | exact pbF1 (bt_lo _ _) (bt_hi _ _) (by assumption) | exact pbF2 (bt_lo _ _) (bt_hi _ _) (by assumption)) i2; rw [e] at x0; exact absurd x0 (by simp)
    · by_cases h2 : bt s (Int.toNat (i)) = 127
      · exfalso; have e := pb_yes (by omega) (by omega) (by first | exact pbF0 (bt_lo _ _) (bt_hi _ _) (by assumption) | exact pbF1 (bt_lo _ _) (bt_hi _ _) (by assumption) | exact pbF2 (bt_lo _ _) (bt_hi _ _) (by assumption)) i2; rw [e] at x0; exact absurd x0 (by simp)
      · by_cases h3 : bt s (Int.toNat (i)) = 47
        · exfalso; have e := pb_yes (by omega) (by omega) (by first | exact pbF0 (bt_lo _ _) (bt_hi _ _) (by assumption) | exact pbF1 (bt_lo _ _) (bt_hi _ _) (by assumption) | exact pbF2 (bt_lo _ _) (bt_hi _ _) (by assumption)) i2; rw [e] at x0; exact absurd x0 (by simp)
        · exact nxDc_p1 s A c0 i X hI0 h0 h1 h2 h3
  · skip
    refine lvDc_0 s A i (h := hyDc_p0) rfl ?_ (thXv (v := St' s) rfl rfl (thNil)) runDc_p0
    unfold hyDc_p0
    exact hc (kRn (denX rfl)) <|
     hc (kBytesB (bs := ([] : LB)) .nil (denX rfl)) <|
     hc (ltF rfl rfl (by omega)) <|
     hnil
theorem lfOkDc_0 {l : LF} {h : LH} (s : LB) (A : Bool) (c0 : s.length ≤ 140737488355328) (x0 : A = false) (st : Nat × Int) (hI : InvDc s A st) (hl : l.hp = some h) (hs : lfSame l h 36 keepDc (.exit 0) 3 3 3 = true) {th0 : LA} {sg0 : List (Nat × Nat)} (hth0 : ∀ X, ThOk (cx nu one 0 laidE laidE_stab) (DDc s A st X) th0) (h0 : startOk l h 36 3 3 th0 sg0 (epDc st) (hpDc st) = true) {thx : LA} (hthx : ThOk (EDc_0 s A) (cx nu one 0 laidE laidE_stab) thx) (hx : exitOk l h 36 3 3 thx [(2, .s 0 0), (3, .ni), (4, .x 0)] [] = true) : LfOk (cx nu one 0 laidE laidE_stab) bodyDc l :=
  lfOkX (E := EDc_0 s A) (InvDc s A) (muDc s A) (DDc s A) (fun _ _ => rfl) (fun _ _ => rfl) (fun _ _ => rfl) (fun st X t ht => nuX_keep.trans (rX_keep ((by decide : ∀ t, t ∈ keepDc → t < 1000000) t ht))) rfl rfl rfl hl hs ebDc rfl rfl st hI hth0 h0 hthx hx (roundsDc_0 s A c0 x0)
def nuEDc_1 (s : LB) (A : Bool) : List Value := []
def roEDc_1 (s : LB) (A : Bool) : List Value := []
noncomputable def EDc_1 (s : LB) (A : Bool) : Cx := cx (nuX (nuEDc_1 s A) (rX (roEDc_1 s A) (fun _ => .bool true))) (nuX_one (nuL_one (l := nuEDc_1 s A) rfl)) 0 laidE laidE_stab
theorem roundsDc_1 (s : LB) (A : Bool) (c0 : s.length ≤ 140737488355328) (x0 : A = true) (st : Nat × Int) (X : Nat → Value) (hI : InvDc s A st) : RHDc s A (EDc_1 s A) .ret [(2, .s 0 0), (3, .ifc 48 (.ag [.i .i64 (.ofNat 10), .s 34 3005282563799781573393914916697283980865317069800478624488273387950561852790939745]))] [] st X := by
  obtain ⟨tag, i⟩ := st
  have hI0 := hI
  obtain ⟨i0, i1, i2, it⟩ := unIDc s A tag i hI
  obtain rfl : tag = 0 := by omega
  skip
  by_cases h0 : i < (s.length : Int)
  · by_cases h1 : bt s (Int.toNat (i)) < 32
    · skip
      have := bt_lo s (Int.toNat (i)); have := bt_hi s (Int.toNat (i))
      refine lvDc_0 s A i (h := hyDc_p4) rfl ?_ (thNil) runDc_p4
      unfold hyDc_p4
      exact hc (kRn (denX rfl)) <|
       hc (kBytesB (bs := ([] : LB)) .nil (denX rfl)) <|
       hc (ltT rfl rfl (by omega)) <|
       hc (ixV rfl rfl rfl (by omega)) <|
       hc (ltcT rfl (by omega)) <|
       hnil
    · by_cases h2 : bt s (Int.toNat (i)) = 127
      · skip
        have := bt_lo s (Int.toNat (i)); have := bt_hi s (Int.toNat (i))
        refine lvDc_0 s A i (h := hyDc_p3) rfl ?_ (thNil) runDc_p3
        unfold hyDc_p3
        exact hc (kRn (denX rfl)) <|
         hc (kBytesB (bs := ([] : LB)) .nil (denX rfl)) <|
         hc (ltT rfl rfl (by omega)) <|
         hc (ixV rfl rfl rfl (by omega)) <|
         hc (ltcF rfl (by omega)) <|
         hc (eqcT rfl (by omega)) <|
         hnil
      · by_cases h3 : bt s (Int.toNat (i)) = 47
        · skip
          have := bt_lo s (Int.toNat (i)); have := bt_hi s (Int.toNat (i))
          refine lvDc_0 s A i (h := hyDc_p2) rfl ?_ (thNil) runDc_p2
          unfold hyDc_p2
          exact hc (kRn (denX rfl)) <|
           hc (kBytesB (bs := ([] : LB)) .nil (denX rfl)) <|
           hc (ltT rfl rfl (by omega)) <|
           hc (ixV rfl rfl rfl (by omega)) <|
           hc (ltcF rfl (by omega)) <|
           hc (eqcF rfl (by omega)) <|
           hc (eqcT rfl (by omega)) <|
           hnil
        · exact nxDc_p1 s A c0 i X hI0 h0 h1 h2 h3
  · exfalso; have e := pb_end (by omega) i2; rw [e] at x0; exact absurd x0 (by simp)
theorem lfOkDc_1 {l : LF} {h : LH} (s : LB) (A : Bool) (c0 : s.length ≤ 140737488355328) (x0 : A = true) (st : Nat × Int) (hI : InvDc s A st) (hl : l.hp = some h) (hs : lfSame l h 36 keepDc .ret 3 3 3 = true) {th0 : LA} {sg0 : List (Nat × Nat)} (hth0 : ∀ X, ThOk (cx nu one 0 laidE laidE_stab) (DDc s A st X) th0) (h0 : startOk l h 36 3 3 th0 sg0 (epDc st) (hpDc st) = true) {thx : LA} (hthx : ThOk (EDc_1 s A) (cx nu one 0 laidE laidE_stab) thx) (hx : exitOk l h 36 3 3 thx [(2, .s 0 0), (3, .ifc 48 (.ag [.i .i64 (.ofNat 10), .s 34 3005282563799781573393914916697283980865317069800478624488273387950561852790939745]))] [] = true) : LfOk (cx nu one 0 laidE laidE_stab) bodyDc l :=
  lfOkX (E := EDc_1 s A) (InvDc s A) (muDc s A) (DDc s A) (fun _ _ => rfl) (fun _ _ => rfl) (fun _ _ => rfl) (fun st X t ht => nuX_keep.trans (rX_keep ((by decide : ∀ t, t ∈ keepDc → t < 1000000) t ht))) rfl rfl rfl hl hs ebDc rfl rfl st hI hth0 h0 hthx hx (roundsDc_1 s A c0 x0)
noncomputable def fi14 : FI := (tabk.fn.get 14).getD default
theorem fi14_at : tabk.fn.get 14 = some fi14 := by kernel_rfl
theorem fi14_body : fi14.body = some (Tryd.f14.body.getD .skip) := by kernel_rfl
theorem fiB14 : fi14.body.isSome = true := by rw [fi14_body]; rfl
theorem cfA14 : (loopsOf (Tryd.f14.body.getD .skip)).all (fun b => !(keyEq (Go.AX.keyOf b) 8888888)) = true := by kernel_rfl
theorem fiNDec : tabk.fn.get 14 = some (fI Tryd.f14 0) ∧ (fI Tryd.f14 0).body.isSome = true := ⟨rfl, by kernel_rfl⟩
def hyDec_0 : LK := [(.call 25 [.x 0], .tu [.x 1, .ni]), (.len (.x 1), .x 2)]
def lh4 : LH := ⟨3, 3, 3, [], []⟩
def lf4 : LF := ⟨5, 36, [(2, .s 0 0), (3, .ni), (4, .x 1), (16, .x 1), (17, .x 2), (18, .i .i64 (.ofNat 0))], [], (.exit 0), [(2, .s 0 0), (3, .ni), (4, .x 3)], some lh4⟩
noncomputable def tabDec_0 : Tab := addLps ({ tabk with hyp := hyDec_0 }) 14 fi14 [lf4]
theorem runDec_0 : okA (call tabDec_0 9000 14 [.x 0] ⟨H0 , 3, 0, 0⟩) (.tu [.x 3, .ni]) = true := by kernel_rfl
def nuDec_0 (s : LB) : List Value := [St' s, St' ((unS s).getD []), .int .i64 ((((unS s).getD []).length : Int)), St' ((unS s).getD [])]
theorem pathDec_0 (s : LB) (b0 : s.length ≤ 9223372036854775807) (p0 : s.length ≤ 140737488355328) (h0 : ¬ (unS s = none)) (h1 : ¬ (((unS s).getD []).any pbB = true)) (w : World) (hl : laidE w) : CwR 14 #[St' s] w (.tuple #[St' ((unS s).getD []), .nilIface]) := by
  have hun := unS_getD_len s
  have ho : ∀ k r, (k, r) ∈ hyDec_0 → HOk (cx (nuL (nuDec_0 s)) (fun j _ => nuL_one (l := nuDec_0 s) rfl j) 0 laidE laidE_stab) k r := by
    unfold hyDec_0
    exact hc (hokUnesc (s := s) (isX rfl) (by rw [if_neg (by assumption)]; exact denT2 (denX rfl) denNi) (by omega) (by omega)) <|
     hc (lnV rfl rfl (by omega)) <|
     hnil
  refine runC (tb := tabDec_0) (ra := .tu [.x 3, .ni]) rfl (AllOk.lp1 ((tabkOk (nuL (nuDec_0 s)) (fun j _ => nuL_one (l := nuDec_0 s) rfl j)).hyps ho) (by omega) fi14_at fi14_body (lfCons (lpKnown rfl ⟨0, keyDc, lfOkDc_0 (l := lf4) (h := lh4) ((unS s).getD []) (((unS s).getD []).any pbB) (by omega) (by simpa using (by assumption : ¬ (((unS s).getD []).any pbB = true))) (0, (0 : Int)) (mkIDc ((unS s).getD []) (((unS s).getD []).any pbB) 0 (0 : Int) ⟨by omega, by omega, rfl, by omega⟩) rfl (by kernel_rfl) (th0 := [(0, .x 1), (1, .i .i64 (.ofNat 0)), (2, .x 2)]) (sg0 := []) (fun X => thXv (v := St' ((unS s).getD [])) rfl rfl (thCons (show Is _ (.i .i64 (.ofNat 0)) (.int .i64 ((0 : Int))) from isTo (v := .int .i64 0) (isI _ _) (by first | rfl | (congr 1; omega))) (thXv (v := .int .i64 ((((unS s).getD []).length : Int))) rfl rfl (thNil)))) (by kernel_rfl) (thx := [(3, .x 0)]) (thXv (v := St' ((unS s).getD [])) rfl rfl (thNil)) (by kernel_rfl)⟩) lfNil)) rfl (get_lps (by omega)) fiB14 (runDec_0 ) (args := [St' s]) (by simp only [RelL, Rel]; exact ⟨_, _, rfl, rfl, rfl⟩) w hl fun x hx => ?_
  simp only [Rel, RelL] at hx
  obtain ⟨_, rfl, ⟨_, _, rfl, rfl, ⟨_, _, rfl, rfl, rfl⟩⟩⟩ := hx
  rfl
def hyDec_1 : LK := [(.call 25 [.x 0], .tu [.s 0 0, .ifc 48 (.ag [.i .i64 (.ofNat 10), .x 1])])]
theorem runDec_1 : okA (call (tbl hyDec_1) 9000 14 [.x 0] ⟨H0 , 3, 0, 0⟩) (.tu [.s 0 0, .ifc 48 (.ag [.i .i64 (.ofNat 10), .x 1])]) = true := by kernel_rfl
def nuDec_1 (s : LB) : List Value := [St' s, St' (unM s)]
theorem pathDec_1 (s : LB) (b0 : s.length ≤ 9223372036854775807) (p0 : s.length ≤ 140737488355328) (h0 : unS s = none) (w : World) (hl : laidE w) : CwR 14 #[St' s] w (.tuple #[St' ([] : LB), .iface 48 (.agg #[.int .i64 10, St' (unM s)])]) := by
  have hun := unS_getD_len s
  have ho : ∀ k r, (k, r) ∈ hyDec_1 → HOk (cx (nuL (nuDec_1 s)) (fun j _ => nuL_one (l := nuDec_1 s) rfl j) 0 laidE laidE_stab) k r := by
    unfold hyDec_1
    exact hc (hokUnesc (s := s) (isX rfl) (by rw [if_pos (by assumption)]; exact denT2 denS0 (denIfc (denA2 (denI .i64 10) (denX rfl)))) (by omega) (by omega)) <|
     hnil
  refine runC (tb := (tbl hyDec_1)) (ra := .tu [.s 0 0, .ifc 48 (.ag [.i .i64 (.ofNat 10), .x 1])]) rfl ((tabkOk (nuL (nuDec_1 s)) (fun j _ => nuL_one (l := nuDec_1 s) rfl j)).hyps ho) rfl fiNDec.1 fiNDec.2 (runDec_1 ) (args := [St' s]) (by simp only [RelL, Rel]; exact ⟨_, _, rfl, rfl, rfl⟩) w hl fun x hx => ?_
  simp only [Rel, RelL] at hx
  obtain ⟨_, rfl, ⟨_, _, rfl, ⟨rfl, _⟩, ⟨_, _, rfl, ⟨_, rfl, ⟨_, rfl, ⟨_, _, rfl, rfl, ⟨_, _, rfl, rfl, rfl⟩⟩⟩⟩, rfl⟩⟩⟩ := hx
  rfl
def hyDec_2 : LK := [(.call 25 [.x 0], .tu [.x 1, .ni]), (.len (.x 1), .x 2)]
def lh5 : LH := ⟨3, 3, 3, [], []⟩
def lf5 : LF := ⟨5, 36, [(2, .s 0 0), (3, .ni), (4, .x 1), (16, .x 1), (17, .x 2), (18, .i .i64 (.ofNat 0))], [], .ret, [(2, .s 0 0), (3, .ifc 48 (.ag [.i .i64 (.ofNat 10), .s 34 3005282563799781573393914916697283980865317069800478624488273387950561852790939745]))], some lh5⟩
noncomputable def tabDec_2 : Tab := addLps ({ tabk with hyp := hyDec_2 }) 14 fi14 [lf5]
theorem runDec_2 : okA (call tabDec_2 9000 14 [.x 0] ⟨H0 , 3, 0, 0⟩) (.tu [.s 0 0, .ifc 48 (.ag [.i .i64 (.ofNat 10), .s 34 3005282563799781573393914916697283980865317069800478624488273387950561852790939745])]) = true := by kernel_rfl
def nuDec_2 (s : LB) : List Value := [St' s, St' ((unS s).getD []), .int .i64 ((((unS s).getD []).length : Int))]
theorem pathDec_2 (s : LB) (b0 : s.length ≤ 9223372036854775807) (p0 : s.length ≤ 140737488355328) (h0 : ¬ (unS s = none)) (h1 : ((unS s).getD []).any pbB = true) (w : World) (hl : laidE w) : CwR 14 #[St' s] w (.tuple #[St' ([] : LB), .iface 48 (.agg #[.int .i64 10, St' [u8 97, u8 32, u8 112, u8 97, u8 116, u8 104, u8 32, u8 119, u8 105, u8 116, u8 104, u8 32, u8 97, u8 32, u8 98, u8 121, u8 116, u8 101, u8 32, u8 116, u8 104, u8 97, u8 116, u8 32, u8 109, u8 97, u8 121, u8 32, u8 110, u8 111, u8 116, u8 32, u8 98, u8 101]])]) := by
  have hun := unS_getD_len s
  have ho : ∀ k r, (k, r) ∈ hyDec_2 → HOk (cx (nuL (nuDec_2 s)) (fun j _ => nuL_one (l := nuDec_2 s) rfl j) 0 laidE laidE_stab) k r := by
    unfold hyDec_2
    exact hc (hokUnesc (s := s) (isX rfl) (by rw [if_neg (by assumption)]; exact denT2 (denX rfl) denNi) (by omega) (by omega)) <|
     hc (lnV rfl rfl (by omega)) <|
     hnil
  refine runC (tb := tabDec_2) (ra := .tu [.s 0 0, .ifc 48 (.ag [.i .i64 (.ofNat 10), .s 34 3005282563799781573393914916697283980865317069800478624488273387950561852790939745])]) rfl (AllOk.lp1 ((tabkOk (nuL (nuDec_2 s)) (fun j _ => nuL_one (l := nuDec_2 s) rfl j)).hyps ho) (by omega) fi14_at fi14_body (lfCons (lpKnown rfl ⟨0, keyDc, lfOkDc_1 (l := lf5) (h := lh5) ((unS s).getD []) (((unS s).getD []).any pbB) (by omega) (by assumption) (0, (0 : Int)) (mkIDc ((unS s).getD []) (((unS s).getD []).any pbB) 0 (0 : Int) ⟨by omega, by omega, rfl, by omega⟩) rfl (by kernel_rfl) (th0 := [(0, .x 1), (1, .i .i64 (.ofNat 0)), (2, .x 2)]) (sg0 := []) (fun X => thXv (v := St' ((unS s).getD [])) rfl rfl (thCons (show Is _ (.i .i64 (.ofNat 0)) (.int .i64 ((0 : Int))) from isTo (v := .int .i64 0) (isI _ _) (by first | rfl | (congr 1; omega))) (thXv (v := .int .i64 ((((unS s).getD []).length : Int))) rfl rfl (thNil)))) (by kernel_rfl) (thx := []) (thNil) (by kernel_rfl)⟩) lfNil)) rfl (get_lps (by omega)) fiB14 (runDec_2 ) (args := [St' s]) (by simp only [RelL, Rel]; exact ⟨_, _, rfl, rfl, rfl⟩) w hl fun x hx => ?_
  simp only [Rel, RelL] at hx
  obtain ⟨_, rfl, ⟨_, _, rfl, ⟨rfl, _⟩, ⟨_, _, rfl, ⟨_, rfl, ⟨_, rfl, ⟨_, _, rfl, rfl, ⟨_, _, rfl, ⟨rfl, _⟩, rfl⟩⟩⟩⟩, rfl⟩⟩⟩ := hx
  rfl
theorem callsDec (s : LB) (b0 : s.length ≤ 9223372036854775807) (p0 : s.length ≤ 140737488355328) (w : World) (hl : laidE w) : CwR 14 #[St' s] w (if dcS s = none then .tuple #[St' [], .iface 48 (.agg #[.int .i64 10, St' (dcM s)])] else .tuple #[St' ((dcS s).getD []), .nilIface]) := by
  by_cases h0 : unS s = none
  · rw [show (if dcS s = none then .tuple #[St' [], .iface 48 (.agg #[.int .i64 10, St' (dcM s)])] else .tuple #[St' ((dcS s).getD []), .nilIface] : Value) = (.tuple #[St' ([] : LB), .iface 48 (.agg #[.int .i64 10, St' (unM s)])] : Value) from by first | (have h := dc_n1 (s := s) (by assumption); rw [if_pos h.1, h.2]; done) | (have h := dc_n2 (s := s) (by assumption) (by assumption); rw [if_pos h.1, h.2]; rfl) | (have h := dc_s (s := s) (by assumption) (by assumption); rw [if_neg h.1, h.2]; done)]
    exact pathDec_1 s b0 p0 h0 w hl
  · by_cases h1 : ((unS s).getD []).any pbB = true
    · rw [show (if dcS s = none then .tuple #[St' [], .iface 48 (.agg #[.int .i64 10, St' (dcM s)])] else .tuple #[St' ((dcS s).getD []), .nilIface] : Value) = (.tuple #[St' ([] : LB), .iface 48 (.agg #[.int .i64 10, St' [u8 97, u8 32, u8 112, u8 97, u8 116, u8 104, u8 32, u8 119, u8 105, u8 116, u8 104, u8 32, u8 97, u8 32, u8 98, u8 121, u8 116, u8 101, u8 32, u8 116, u8 104, u8 97, u8 116, u8 32, u8 109, u8 97, u8 121, u8 32, u8 110, u8 111, u8 116, u8 32, u8 98, u8 101]])] : Value) from by first | (have h := dc_n1 (s := s) (by assumption); rw [if_pos h.1, h.2]; done) | (have h := dc_n2 (s := s) (by assumption) (by assumption); rw [if_pos h.1, h.2]; rfl) | (have h := dc_s (s := s) (by assumption) (by assumption); rw [if_neg h.1, h.2]; done)]
      exact pathDec_2 s b0 p0 h0 h1 w hl
    · rw [show (if dcS s = none then .tuple #[St' [], .iface 48 (.agg #[.int .i64 10, St' (dcM s)])] else .tuple #[St' ((dcS s).getD []), .nilIface] : Value) = (.tuple #[St' ((unS s).getD []), .nilIface] : Value) from by first | (have h := dc_n1 (s := s) (by assumption); rw [if_pos h.1, h.2]; done) | (have h := dc_n2 (s := s) (by assumption) (by assumption); rw [if_pos h.1, h.2]; rfl) | (have h := dc_s (s := s) (by assumption) (by assumption); rw [if_neg h.1, h.2]; done)]
      exact pathDec_0 s b0 p0 h0 h1 w hl
theorem hokDec {x0 r : AV} {s : LB} (i0 : Is (cx nu one 0 laidE laidE_stab) x0 (St' s)) (hr : Den (cx nu one 0 laidE laidE_stab) r (if dcS s = none then .tuple #[St' [], .iface 48 (.agg #[.int .i64 10, St' (dcM s)])] else .tuple #[St' ((dcS s).getD []), .nilIface])) (b0 : s.length ≤ 9223372036854775807) (p0 : s.length ≤ 140737488355328) : HOk (cx nu one 0 laidE laidE_stab) (.call 14 [x0]) r := by
  intro ρ args ha w hl _
  simp only [RelL] at ha
  obtain ⟨v0, t0, rfl, a0, rfl⟩ := ha
  have e0 := i0 ρ _ a0; subst e0
  exact (callsDec s b0 p0 w hl).mono fun e w' he => ⟨_, he.1, hr ρ, he.2⟩
end Go.Proofs.YtipdlfkjablekaaDoor.pathBack
