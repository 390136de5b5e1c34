/- A part of the proof: an interpreter of the model's own code on partly known states, and that what it answers is what the program answers. No condition of its own. -/
import Derived.Test.YtjkdkpdjmapieaaDoorE1FieldBackO
set_option maxRecDepth 100000
set_option linter.unusedVariables false
set_option linter.unusedSimpArgs false
set_option maxHeartbeats 4000000
namespace Go.Proofs.YtjkdkpdjmapieaaDoor.fieldBack
open Go Go.AX Go.Proofs Go.Proofs.YtjkdkpdjmapieaaDoor
variable {nu : Nat → Value} {one : ∀ i, i < 1000000 → (nu i).oneCell' = true} {E' : Cx} {x' : Ex} {e' : LA} {h' : LE}
def MVs : Nat := 115792089237316195423570985008687907853099843482180094807725896704192950567424
def msk (M : Nat) (b : UInt8) : Bool := tb8 M (b.toNat : Int)
def visS (s : LB) : Bool := s.all (msk MVs)
theorem al_at {M : Nat} {s : LB} {i : Int} (h0 : 0 ≤ i) (h : i < s.length) : (s.drop (Int.toNat i)).all (msk M) = (tb8 M (bt s (Int.toNat (i))) && (s.drop (Int.toNat (i + 1))).all (msk M)) := by
  have e : s.drop i.toNat = u8 (bt s i.toNat) :: s.drop (i.toNat + 1) := by
    rw [List.drop_eq_getElem_cons (by omega), u8_bt, List.getD_eq_getElem?_getD, List.getElem?_eq_getElem (by omega), Option.getD_some]
  rw [e, List.all_cons, msk, u8_toNat (bt_lo _ _) (bt_hi _ _), show (i + 1).toNat = i.toNat + 1 by omega]
theorem al_yes {M : Nat} {s : LB} {i : Int} {A : Bool} (h0 : 0 ≤ i) (h : i < s.length) (hb : tb8 M (bt s (Int.toNat (i))) = true) (hA : (s.drop (Int.toNat i)).all (msk M) = A) : (s.drop (Int.toNat (i + 1))).all (msk M) = A := by
  rw [al_at h0 h, hb, Bool.true_and] at hA; exact hA
theorem al_no {M : Nat} {s : LB} {i : Int} {A : Bool} (h0 : 0 ≤ i) (h : i < s.length) (hb : tb8 M (bt s (Int.toNat (i))) = false) (hA : (s.drop (Int.toNat i)).all (msk M) = A) : A = false := by
  rw [al_at h0 h, hb, Bool.false_and] at hA; exact hA.symm
theorem al_end {M : Nat} {s : LB} {i : Int} {A : Bool} (h : (s.length : Int) ≤ i) (hA : (s.drop (Int.toNat i)).all (msk M) = A) : A = true := by
  rw [List.drop_eq_nil_of_le (by omega)] at hA; exact hA.symm
theorem vs_c {c : Int} (h0 : 0 ≤ c) (h1 : c ≤ 255) : tb8 MVs c = decide (c = 9 ∨ (32 ≤ c ∧ c ≠ 127)) := by
  obtain ⟨n, rfl⟩ := Int.eq_ofNat_of_zero_le h0
  have h : ∀ m : Fin 256, tb8 MVs (m.val : Int) = decide ((m.val : Int) = 9 ∨ (32 ≤ (m.val : Int) ∧ (m.val : Int) ≠ 127)) := by decide +kernel
  exact h ⟨n, by omega⟩
theorem vs_y {c : Int} (h0 : 0 ≤ c) (h1 : c ≤ 255) (h : c = 9 ∨ (32 ≤ c ∧ c ≠ 127)) : tb8 MVs c = true := by rw [vs_c h0 h1]; exact decide_eq_true h
theorem vs_n {c : Int} (h0 : 0 ≤ c) (h1 : c ≤ 255) (h : ¬ (c = 9 ∨ (32 ≤ c ∧ c ≠ 127))) : tb8 MVs c = false := by rw [vs_c h0 h1]; exact decide_eq_false h
noncomputable def bodyVi : Code := loopNo (Tryd.f39.body.getD .skip) 0
theorem keyVi : oneKey (loopsOf (Tryd.f39.body.getD .skip)) 2 0 0 = true := by kernel_rfl
def keepVi : List Nat := []
def epVi_0 : LA := [(0, .x 0), (2, .b false), (7, .x 1), (5, .x 0), (6, .x 2)]
def hpVi_0 : LE := []
def nuVi_0 (s : LB) (A : Bool) (i : Int) : List Value := [St' s, .int .i64 (i), .int .i64 ((s.length : Int)), .int .u8 (bt s (Int.toNat (i))), .int .i64 (i + 1), .int .u8 (bt s (Int.toNat (i))), .int .i64 (i + 1), .int .u8 (bt s (Int.toNat (i))), .int .u8 (bt s (Int.toNat (i)))]
def roVi_0 (s : LB) (A : Bool) (i : Int) : List Value := []
def epVi (st : Nat × Int) : LA := epVi_0
def hpVi (st : Nat × Int) : LE := hpVi_0
def nuVi (s : LB) (A : Bool) (st : Nat × Int) : List Value := nuVi_0 s A (st.2)
def roVi (s : LB) (A : Bool) (st : Nat × Int) : List Value := roVi_0 s A (st.2)
theorem onVi (s : LB) (A : Bool) (st : Nat × Int) : ∀ j, (nuL (nuVi s A st) j).oneCell' = true := by
  intro j
  unfold nuVi
  exact nuL_one (l := nuVi_0 s A (st.2)) rfl j
theorem ebVi (st : Nat × Int) : (lfB (epVi st) && lfC keepVi) = true := by
  unfold epVi
  rfl
noncomputable def DVi (s : LB) (A : Bool) (st : Nat × Int) (X : Nat → Value) : Cx := cx (nuX (nuVi s A st) (rX (roVi s A st) X)) (nuX_one (onVi s A st)) 0 laidE laidE_stab
def InvVi (s : LB) (A : Bool) (st : Nat × Int) : Prop := (0 ≤ (st.2)) ∧ ((st.2) ≤ (s.length : Int)) ∧ ((s.drop (Int.toNat (st.2))).all (msk MVs) = A) ∧ ((st.1) < 1)
abbrev CjVi (s : LB) (A : Bool) (tag : Nat) (i : Int) : Prop := (0 ≤ i) ∧ (i ≤ (s.length : Int)) ∧ ((s.drop (Int.toNat i)).all (msk MVs) = A) ∧ (tag < 1)
theorem mkIVi (s : LB) (A : Bool) (tag : Nat) (i : Int) (h : CjVi s A tag i) : InvVi s A (tag, i) := h
theorem unIVi (s : LB) (A : Bool) (tag : Nat) (i : Int) (h : InvVi s A (tag, i)) : (0 ≤ i) ∧ (i ≤ (s.length : Int)) ∧ ((s.drop (Int.toNat i)).all (msk MVs) = A) ∧ (tag < 1) := h
def muVi (s : LB) (A : Bool) (st : Nat × Int) : Nat := (s.length - (st.2).toNat)
abbrev RHVi (s : LB) (A : Bool) (E' : Cx) (ex' : Ex) (epx' : LA) (hpx' : LE) (st : Nat × Int) (X : Nat → Value) : Prop := RoundH E' bodyVi keepVi 23 ex' 4 4 4 4 epVi hpVi epx' hpx' (InvVi s A) (muVi s A) (DVi s A) st X
noncomputable abbrev RNVi_0 (h : LK) (x : Ex) (th : LA) (sg : List (Nat × Nat)) (m : Nat) (ep : LA) (hp : LE) : Bool := okRdH (code (tbl h) 900 [] bodyVi (envOf (headOf epVi_0 keepVi) 23) ⟨lhSet hpVi_0 .leaf, 4, 0, 0⟩) x keepVi 23 4 th sg 4 m ep hp
theorem stVi_0 (s : LB) (A : Bool) (i : Int) {X : Nat → Value} {h : LK} (y : Nat × Int) {th : LA} {sg : List (Nat × Nat)} (ho : ∀ a' r', (a', r') ∈ h → HOk (cx (nuX (nuVi_0 s A i) (rX (roVi_0 s A i) X)) (nuX_one (nuL_one (l := nuVi_0 s A i) rfl)) 0 laidE laidE_stab) a' r') (hy : InvVi s A y) (lt : muVi s A y < muVi s A (0, i)) (ht : ThOk (cx (nuX (nuVi_0 s A i) (rX (roVi_0 s A i) X)) (nuX_one (nuL_one (l := nuVi_0 s A i) rfl)) 0 laidE laidE_stab) (DVi s A y X) th) (run : RNVi_0 h .normal th sg 4 (epVi y) (hpVi y) = true) : RHVi s A E' x' e' h' (0, i) X :=
  RoundH.next (tb := tbl h) (L := []) (f := 900) y ((tabkOk _ _).hyps ho) (LpOk.nil _) rfl hy lt ht run
theorem lvVi_0 (s : LB) (A : Bool) (i : Int) {X : Nat → Value} {h : LK} {th : LA} {sg : List (Nat × Nat)} (hne : exB x' .normal = false) (ho : ∀ a' r', (a', r') ∈ h → HOk (cx (nuX (nuVi_0 s A i) (rX (roVi_0 s A i) X)) (nuX_one (nuL_one (l := nuVi_0 s A i) rfl)) 0 laidE laidE_stab) a' r') (ht : ThOk (cx (nuX (nuVi_0 s A i) (rX (roVi_0 s A i) X)) (nuX_one (nuL_one (l := nuVi_0 s A i) rfl)) 0 laidE laidE_stab) E' th) (run : RNVi_0 h x' th sg 4 e' h' = true) : RHVi s A E' x' e' h' (0, i) X :=
  RoundH.leave (tb := tbl h) (L := []) (f := 900) ((tabkOk _ _).hyps ho) (LpOk.nil _) rfl hne ht run
def hyVi_p0 : LK := [(.bin .lss (.x 1) (.x 2), .b false)]
theorem runVi_p0 : RNVi_0 hyVi_p0 (.exit 0) [(0, .x 0)] [] 4 [(0, .x 0), (2, .b false)] [] = true := by kernel_rfl
def hyVi_p1 : LK := [(.bin .lss (.x 1) (.x 2), .b true), (.idx (.x 0) (.x 1), .x 3), (.bin .eql (.x 3) (.i .u8 (.ofNat 9)), .b false), (.bin .lss (.x 3) (.i .u8 (.ofNat 32)), .b false), (.bin .eql (.x 3) (.i .u8 (.ofNat 127)), .b false), (.bin .add (.x 1) (.i .i64 (.ofNat 1)), .x 4)]
theorem runVi_p1 : RNVi_0 hyVi_p1 .normal [(0, .x 0), (1, .x 4), (2, .x 2)] [] 4 epVi_0 hpVi_0 = true := by kernel_rfl
theorem nxVi_p1 (s : LB) (A : Bool) (c0 : s.length ≤ 140737488355328) (i : Int) (X : Nat → Value) (hI : InvVi s A (0, i)) (h0 : i < (s.length : Int)) (h1 : ¬ (bt s (Int.toNat (i)) = 9)) (h2 : ¬ (bt s (Int.toNat (i)) < 32)) (h3 : ¬ (bt s (Int.toNat (i)) = 127)) : RHVi s A E' x' e' h' (0, i) X := by
  obtain ⟨i0, i1, i2, it⟩ := unIVi s A 0 i hI
  have := bt_lo s (Int.toNat (i)); have := bt_hi s (Int.toNat (i))
  refine stVi_0 s A i (h := hyVi_p1) (0, (i + 1)) ?_ (mkIVi s A 0 (i + 1) ⟨by omega, by omega, al_yes (by omega) (by omega) (vs_y (bt_lo _ _) (bt_hi _ _) (by omega)) i2, by omega⟩) (by show s.length - (i + 1).toNat < s.length - i.toNat; omega) (thXv (v := St' s) rfl rfl (thXi (b := ((i + 1))) rfl rfl (by omega) (thXv (v := .int .i64 ((s.length : Int))) rfl rfl (thNil)))) runVi_p1
  unfold hyVi_p1
  exact hc (ltT rfl rfl (by omega)) <|
   hc (ixV rfl rfl rfl (by omega)) <|
   hc (eqcF rfl (by omega)) <|
   hc (ltcF rfl (by omega)) <|
   hc (eqcF rfl (by omega)) <|
   hc (adC rfl rfl (by omega)) <|
   hnil
def hyVi_p2 : LK := [(.bin .lss (.x 1) (.x 2), .b true), (.idx (.x 0) (.x 1), .x 5), (.bin .eql (.x 5) (.i .u8 (.ofNat 9)), .b true), (.bin .add (.x 1) (.i .i64 (.ofNat 1)), .x 6)]
theorem runVi_p2 : RNVi_0 hyVi_p2 .normal [(0, .x 0), (1, .x 6), (2, .x 2)] [] 4 epVi_0 hpVi_0 = true := by kernel_rfl
theorem nxVi_p2 (s : LB) (A : Bool) (c0 : s.length ≤ 140737488355328) (i : Int) (X : Nat → Value) (hI : InvVi s A (0, i)) (h0 : i < (s.length : Int)) (h1 : bt s (Int.toNat (i)) = 9) : RHVi s A E' x' e' h' (0, i) X := by
  obtain ⟨i0, i1, i2, it⟩ := unIVi s A 0 i hI
  have := bt_lo s (Int.toNat (i)); have := bt_hi s (Int.toNat (i))
  refine stVi_0 s A i (h := hyVi_p2) (0, (i + 1)) ?_ (mkIVi s A 0 (i + 1) ⟨by omega, by omega, al_yes (by omega) (by omega) (vs_y (bt_lo _ _) (bt_hi _ _) (by omega)) i2, by omega⟩) (by show s.length - (i + 1).toNat < s.length - i.toNat; omega) (thXv (v := St' s) rfl rfl (thXi (b := ((i + 1))) rfl rfl (by omega) (thXv (v := .int .i64 ((s.length : Int))) rfl rfl (thNil)))) runVi_p2
  unfold hyVi_p2
  exact hc (ltT rfl rfl (by omega)) <|
   hc (ixV rfl rfl rfl (by omega)) <|
   hc (eqcT rfl (by omega)) <|
   hc (adC rfl rfl (by omega)) <|
   hnil
def hyVi_p3 : LK := [(.bin .lss (.x 1) (.x 2), .b true), (.idx (.x 0) (.x 1), .x 7), (.bin .eql (.x 7) (.i .u8 (.ofNat 9)), .b false), (.bin .lss (.x 7) (.i .u8 (.ofNat 32)), .b true)]
theorem runVi_p3 : RNVi_0 hyVi_p3 .ret [] [] 4 [(2, .b false)] [] = true := by kernel_rfl
def hyVi_p4 : LK := [(.bin .lss (.x 1) (.x 2), .b true), (.idx (.x 0) (.x 1), .x 8), (.bin .eql (.x 8) (.i .u8 (.ofNat 9)), .b false), (.bin .lss (.x 8) (.i .u8 (.ofNat 32)), .b false), (.bin .eql (.x 8) (.i .u8 (.ofNat 127)), .b true)]
theorem runVi_p4 : RNVi_0 hyVi_p4 .ret [] [] 4 [(2, .b false)] [] = true := by kernel_rfl
def nuEVi_0 (s : LB) (A : Bool) : List Value := [St' s]
def roEVi_0 (s : LB) (A : Bool) : List Value := []
noncomputable def EVi_0 (s : LB) (A : Bool) : Cx := cx (nuX (nuEVi_0 s A) (rX (roEVi_0 s A) (fun _ => .bool true))) (nuX_one (nuL_one (l := nuEVi_0 s A) rfl)) 0 laidE laidE_stab
theorem roundsVi_0 (s : LB) (A : Bool) (c0 : s.length ≤ 140737488355328) (x0 : A = true) (st : Nat × Int) (X : Nat → Value) (hI : InvVi s A st) : RHVi s A (EVi_0 s A) (.exit 0) [(0, .x 0), (2, .b false)] [] st X := by
  obtain ⟨tag, i⟩ := st
  have hI0 := hI
  obtain ⟨i0, i1, i2, it⟩ := unIVi s A tag i hI
  obtain rfl : tag = 0 := by omega
  skip
  by_cases h0 : i < (s.length : Int)
  · by_cases h1 : bt s (Int.toNat (i)) = 9
    · exact nxVi_p2 s A c0 i X hI0 h0 h1
    · by_cases h2 : bt s (Int.toNat (i)) < 32
      · exfalso; have e := al_no (by omega) (by omega) (vs_n (bt_lo _ _) (bt_hi _ _) (by omega)) i2; rw [e] at x0; exact absurd x0 (by simp)
      · by_cases h3 : bt s (Int.toNat (i)) = 127
        · exfalso; have e := al_no (by omega) (by omega) (vs_n (bt_lo _ _) (bt_hi _ _) (by omega)) i2; rw [e] at x0; exact absurd x0 (by simp)
        · exact nxVi_p1 s A c0 i X hI0 h0 h1 h2 h3
  · skip
    refine lvVi_0 s A i (h := hyVi_p0) rfl ?_ (thXv (v := St' s) rfl rfl (thNil)) runVi_p0
    unfold hyVi_p0
    exact hc (ltF rfl rfl (by omega)) <|
     hnil
theorem lfOkVi_0 {l : LF} {h : LH} (s : LB) (A : Bool) (c0 : s.length ≤ 140737488355328) (x0 : A = true) (st : Nat × Int) (hI : InvVi s A st) (hl : l.hp = some h) (hs : lfSame l h 23 keepVi (.exit 0) 4 4 4 = true) {th0 : LA} {sg0 : List (Nat × Nat)} (hth0 : ∀ X, ThOk (cx nu one 0 laidE laidE_stab) (DVi s A st X) th0) (h0 : startOk l h 23 4 4 th0 sg0 (epVi st) (hpVi st) = true) {thx : LA} (hthx : ThOk (EVi_0 s A) (cx nu one 0 laidE laidE_stab) thx) (hx : exitOk l h 23 4 4 thx [(0, .x 0), (2, .b false)] [] = true) : LfOk (cx nu one 0 laidE laidE_stab) bodyVi l :=
  lfOkX (E := EVi_0 s A) (InvVi s A) (muVi s A) (DVi s A) (fun _ _ => rfl) (fun _ _ => rfl) (fun _ _ => rfl) (fun st X t ht => nuX_keep.trans (rX_keep ((by decide : ∀ t, t ∈ keepVi → t < 1000000) t ht))) rfl rfl rfl hl hs ebVi rfl rfl st hI hth0 h0 hthx hx (roundsVi_0 s A c0 x0)
def nuEVi_1 (s : LB) (A : Bool) : List Value := []
def roEVi_1 (s : LB) (A : Bool) : List Value := []
noncomputable def EVi_1 (s : LB) (A : Bool) : Cx := cx (nuX (nuEVi_1 s A) (rX (roEVi_1 s A) (fun _ => .bool true))) (nuX_one (nuL_one (l := nuEVi_1 s A) rfl)) 0 laidE laidE_stab
theorem roundsVi_1 (s : LB) (A : Bool) (c0 : s.length ≤ 140737488355328) (x0 : A = false) (st : Nat × Int) (X : Nat → Value) (hI : InvVi s A st) : RHVi s A (EVi_1 s A) .ret [(2, .b false)] [] st X := by
  obtain ⟨tag, i⟩ := st
  have hI0 := hI
  obtain ⟨i0, i1, i2, it⟩ := unIVi s A tag i hI
  obtain rfl : tag = 0 := by omega
  skip
  by_cases h0 : i < (s.length : Int)
  · by_cases h1 : bt s (Int.toNat (i)) = 9
    · exact nxVi_p2 s A c0 i X hI0 h0 h1
    · by_cases h2 : bt s (Int.toNat (i)) < 32
      · skip
        have := bt_lo s (Int.toNat (i)); have := bt_hi s (Int.toNat (i))
        refine lvVi_0 s A i (h := hyVi_p3) rfl ?_ (thNil) runVi_p3
        unfold hyVi_p3
        exact hc (ltT rfl rfl (by omega)) <|
         hc (ixV rfl rfl rfl (by omega)) <|
         hc (eqcF rfl (by omega)) <|
         hc (ltcT rfl (by omega)) <|
         hnil
      · by_cases h3 : bt s (Int.toNat (i)) = 127
        · skip
          have := bt_lo s (Int.toNat (i)); have := bt_hi s (Int.toNat (i))
          refine lvVi_0 s A i (h := hyVi_p4) rfl ?_ (thNil) runVi_p4
          unfold hyVi_p4
          exact hc (ltT rfl rfl (by omega)) <|
           hc (ixV rfl rfl rfl (by omega)) <|
           hc (eqcF rfl (by omega)) <|
           hc (ltcF rfl (by omega)) <|
           hc (eqcT rfl (by omega)) <|
           hnil
        · exact nxVi_p1 s A c0 i X hI0 h0 h1 h2 h3
  · exfalso; have e := al_end (by omega) i2; rw [e] at x0; exact absurd x0 (by simp)
theorem lfOkVi_1 {l : LF} {h : LH} (s : LB) (A : Bool) (c0 : s.length ≤ 140737488355328) (x0 : A = false) (st : Nat × Int) (hI : InvVi s A st) (hl : l.hp = some h) (hs : lfSame l h 23 keepVi .ret 4 4 4 = true) {th0 : LA} {sg0 : List (Nat × Nat)} (hth0 : ∀ X, ThOk (cx nu one 0 laidE laidE_stab) (DVi s A st X) th0) (h0 : startOk l h 23 4 4 th0 sg0 (epVi st) (hpVi st) = true) {thx : LA} (hthx : ThOk (EVi_1 s A) (cx nu one 0 laidE laidE_stab) thx) (hx : exitOk l h 23 4 4 thx [(2, .b false)] [] = true) : LfOk (cx nu one 0 laidE laidE_stab) bodyVi l :=
  lfOkX (E := EVi_1 s A) (InvVi s A) (muVi s A) (DVi s A) (fun _ _ => rfl) (fun _ _ => rfl) (fun _ _ => rfl) (fun st X t ht => nuX_keep.trans (rX_keep ((by decide : ∀ t, t ∈ keepVi → t < 1000000) t ht))) rfl rfl rfl hl hs ebVi rfl rfl st hI hth0 h0 hthx hx (roundsVi_1 s A c0 x0)
noncomputable def fi39 : FI := (tabk.fn.get 39).getD default
theorem fi39_at : tabk.fn.get 39 = some fi39 := by kernel_rfl
theorem fi39_body : fi39.body = some (Tryd.f39.body.getD .skip) := by kernel_rfl
theorem fiB39 : fi39.body.isSome = true := by rw [fi39_body]; rfl
def hyVisible_0 : LK := [(.len (.x 0), .x 1)]
def lh1 : LH := ⟨4, 4, 4, [], []⟩
def lf1 : LF := ⟨2, 23, [(0, .x 0), (2, .b false), (7, .i .i64 (.ofNat 0)), (5, .x 0), (6, .x 1)], [], (.exit 0), [(0, .x 2), (2, .b false)], some lh1⟩
noncomputable def tabVisible_0 : Tab := addLps ({ tabk with hyp := hyVisible_0 }) 39 fi39 [lf1]
theorem runVisible_0 : okA (call tabVisible_0 9000 39 [.x 0] ⟨H0 , 4, 0, 0⟩) (.b true) = true := by kernel_rfl
def nuVisible_0 (s : LB) : List Value := [St' s, .int .i64 ((s.length : Int)), St' s]
theorem pathVisible_0 (s : LB) (b0 : s.length ≤ 9223372036854775807) (p0 : s.length ≤ 140737488355328) (h0 : s.all (msk MVs) = true) (w : World) (hl : laidE w) : CwR 39 #[St' s] w (.bool true) := by
  have ho : ∀ k r, (k, r) ∈ hyVisible_0 → HOk (cx (nuL (nuVisible_0 s)) (fun j _ => nuL_one (l := nuVisible_0 s) rfl j) 0 laidE laidE_stab) k r := by
    unfold hyVisible_0
    exact hc (lnV rfl rfl (by omega)) <|
     hnil
  refine runC (tb := tabVisible_0) (ra := .b true) rfl (AllOk.lp1 ((tabkOk (nuL (nuVisible_0 s)) (fun j _ => nuL_one (l := nuVisible_0 s) rfl j)).hyps ho) (by omega) fi39_at fi39_body (lfCons (lpKnown rfl ⟨0, keyVi, lfOkVi_0 (l := lf1) (h := lh1) s (s.all (msk MVs)) (by omega) (by assumption) (0, (0 : Int)) (mkIVi s (s.all (msk MVs)) 0 (0 : Int) ⟨by omega, by omega, rfl, by omega⟩) rfl (by kernel_rfl) (th0 := [(0, .x 0), (1, .i .i64 (.ofNat 0)), (2, .x 1)]) (sg0 := []) (fun X => thXv (v := St' s) rfl rfl (thCons (show Is _ (.i .i64 (.ofNat 0)) (.int .i64 ((0 : Int))) from isTo (v := .int .i64 0) (isI _ _) (by first | rfl | (congr 1; omega))) (thXv (v := .int .i64 ((s.length : Int))) rfl rfl (thNil)))) (by kernel_rfl) (thx := [(2, .x 0)]) (thXv (v := St' s) rfl rfl (thNil)) (by kernel_rfl)⟩) lfNil)) rfl (get_lps (by omega)) fiB39 (runVisible_0 ) (args := [St' s]) (by simp only [RelL, Rel]; exact ⟨_, _, rfl, rfl, rfl⟩) w hl fun x hx => ?_
  simp only [Rel, RelL] at hx
  exact hx
def hyVisible_1 : LK := [(.len (.x 0), .x 1)]
def lh3 : LH := ⟨4, 4, 4, [], []⟩
def lf3 : LF := ⟨2, 23, [(0, .x 0), (2, .b false), (7, .i .i64 (.ofNat 0)), (5, .x 0), (6, .x 1)], [], .ret, [(2, .b false)], some lh3⟩
noncomputable def tabVisible_1 : Tab := addLps ({ tabk with hyp := hyVisible_1 }) 39 fi39 [lf3]
theorem runVisible_1 : okA (call tabVisible_1 9000 39 [.x 0] ⟨H0 , 4, 0, 0⟩) (.b false) = true := by kernel_rfl
def nuVisible_1 (s : LB) : List Value := [St' s, .int .i64 ((s.length : Int))]
theorem pathVisible_1 (s : LB) (b0 : s.length ≤ 9223372036854775807) (p0 : s.length ≤ 140737488355328) (h0 : ¬ (s.all (msk MVs) = true)) (w : World) (hl : laidE w) : CwR 39 #[St' s] w (.bool false) := by
  have ho : ∀ k r, (k, r) ∈ hyVisible_1 → HOk (cx (nuL (nuVisible_1 s)) (fun j _ => nuL_one (l := nuVisible_1 s) rfl j) 0 laidE laidE_stab) k r := by
    unfold hyVisible_1
    exact hc (lnV rfl rfl (by omega)) <|
     hnil
  refine runC (tb := tabVisible_1) (ra := .b false) rfl (AllOk.lp1 ((tabkOk (nuL (nuVisible_1 s)) (fun j _ => nuL_one (l := nuVisible_1 s) rfl j)).hyps ho) (by omega) fi39_at fi39_body (lfCons (lpKnown rfl ⟨0, keyVi, lfOkVi_1 (l := lf3) (h := lh3) s (s.all (msk MVs)) (by omega) (by simpa using (by assumption : ¬ (s.all (msk MVs) = true))) (0, (0 : Int)) (mkIVi s (s.all (msk MVs)) 0 (0 : Int) ⟨by omega, by omega, rfl, by omega⟩) rfl (by kernel_rfl) (th0 := [(0, .x 0), (1, .i .i64 (.ofNat 0)), (2, .x 1)]) (sg0 := []) (fun X => thXv (v := St' s) rfl rfl (thCons (show Is _ (.i .i64 (.ofNat 0)) (.int .i64 ((0 : Int))) from isTo (v := .int .i64 0) (isI _ _) (by first | rfl | (congr 1; omega))) (thXv (v := .int .i64 ((s.length : Int))) rfl rfl (thNil)))) (by kernel_rfl) (thx := []) (thNil) (by kernel_rfl)⟩) lfNil)) rfl (get_lps (by omega)) fiB39 (runVisible_1 ) (args := [St' s]) (by simp only [RelL, Rel]; exact ⟨_, _, rfl, rfl, rfl⟩) w hl fun x hx => ?_
  simp only [Rel, RelL] at hx
  exact hx
theorem callsVisible (s : LB) (b0 : s.length ≤ 9223372036854775807) (p0 : s.length ≤ 140737488355328) (w : World) (hl : laidE w) : CwR 39 #[St' s] w (.bool (visS s)) := by
  by_cases h0 : s.all (msk MVs) = true
  · rw [show (.bool (visS s) : Value) = (.bool true : Value) from by unfold visS; first | (simp [*]; done)]
    exact pathVisible_0 s b0 p0 h0 w hl
  · rw [show (.bool (visS s) : Value) = (.bool false : Value) from by unfold visS; first | (simp [*]; done)]
    exact pathVisible_1 s b0 p0 h0 w hl
theorem hokVisible {x0 r : AV} {s : LB} (i0 : Is (cx nu one 0 laidE laidE_stab) x0 (St' s)) (hr : Den (cx nu one 0 laidE laidE_stab) r (.bool (visS s))) (b0 : s.length ≤ 9223372036854775807) (p0 : s.length ≤ 140737488355328) : HOk (cx nu one 0 laidE laidE_stab) (.call 39 [x0]) r := by
  intro ρ args ha w hl _
  simp only [RelL] at ha
  obtain ⟨v0, t0, rfl, a0, rfl⟩ := ha
  have e0 := i0 ρ _ a0; subst e0
  exact (callsVisible s b0 p0 w hl).mono fun e w' he => ⟨_, he.1, hr ρ, he.2⟩
def bl (b : UInt8) : Bool := tb8 4294967808 (b.toNat : Int)
def trR (l : LB) : LB := (l.reverse.dropWhile bl).reverse
def trL (l : LB) : LB := l.dropWhile bl
def trS (l : LB) : LB := trL (trR l)
theorem bt_last {l : LB} {i : Nat} (h : i + 1 = l.length) : ∃ p, l = p ++ [u8 (bt l i)] ∧ p = l.take i := by
  refine ⟨l.take i, ?_, rfl⟩
  rw [u8_bt, List.getD_eq_getElem?_getD, List.getElem?_eq_getElem (by omega), Option.getD_some]
  have := List.take_append_getElem (l := l) (i := i) (by omega)
  rw [this, h, List.take_length]
theorem bl_u8 {c : Int} (h0 : 0 ≤ c) (h1 : c ≤ 255) : bl (u8 c) = tb8 4294967808 c := by unfold bl; rw [u8_toNat h0 h1]
theorem trR_step {l : LB} {i : Nat} (h : i + 1 = l.length) (hb : tb8 4294967808 (bt l i) = true) : trR (l.take i) = trR l := by
  obtain ⟨p, e, hp⟩ := bt_last h
  rw [← hp]
  conv => rhs; rw [e]
  unfold trR
  rw [List.reverse_append, List.reverse_singleton, List.singleton_append, List.dropWhile_cons, bl_u8 (bt_lo _ _) (bt_hi _ _), hb]; rfl
theorem trR_end {l : LB} {i : Nat} (h : i + 1 = l.length) (hb : ¬ (tb8 4294967808 (bt l i) = true)) : trR l = l := by
  obtain ⟨p, e, hp⟩ := bt_last h
  have hb : tb8 4294967808 (bt l i) = false := by simpa using hb
  have : (l.reverse.dropWhile bl) = l.reverse := by
    conv => lhs; rw [e]
    conv => rhs; rw [e]
    rw [List.reverse_append, List.reverse_singleton, List.singleton_append, List.dropWhile_cons, bl_u8 (bt_lo _ _) (bt_hi _ _), hb]; rfl
  unfold trR; rw [this, List.reverse_reverse]
theorem trR_nil {l : LB} (h : l.length = 0) : trR l = l := by rw [List.eq_nil_of_length_eq_zero h]; rfl
theorem cons_bt {l : LB} (h : 0 < l.length) : l = u8 (bt l 0) :: l.drop 1 := by
  cases l with
  | nil => simp at h
  | cons a r => rw [u8_bt]; rfl
theorem trL_step {l : LB} (h : 0 < l.length) (hb : tb8 4294967808 (bt l 0) = true) : trL (l.drop 1) = trL l := by
  conv => rhs; rw [cons_bt h]
  unfold trL
  rw [List.dropWhile_cons, bl_u8 (bt_lo _ _) (bt_hi _ _), hb]; rfl
theorem trL_end {l : LB} (h : 0 < l.length) (hb : ¬ (tb8 4294967808 (bt l 0) = true)) : trL l = l := by
  have hb : tb8 4294967808 (bt l 0) = false := by simpa using hb
  conv => lhs; rw [cons_bt h]
  unfold trL
  rw [List.dropWhile_cons, bl_u8 (bt_lo _ _) (bt_hi _ _), hb]
  exact (cons_bt h).symm
theorem trL_nil {l : LB} (h : l.length = 0) : trL l = l := by rw [List.eq_nil_of_length_eq_zero h]; rfl
theorem trR_len (l : LB) : (trR l).length ≤ l.length := by
  have := (List.dropWhile_sublist (p := bl) (l := l.reverse)).length_le
  unfold trR; simpa using this
theorem trL_len (l : LB) : (trL l).length ≤ l.length := (List.dropWhile_sublist (p := bl) (l := l)).length_le
noncomputable def bodyTr : Code := loopNo (Tryd.f59.body.getD .skip) 0
theorem keyTr : oneKey (loopsOf (Tryd.f59.body.getD .skip)) 1 0 0 = true := by kernel_rfl
def keepTr : List Nat := []
def epTr_0 : LA := [(0, .x 0), (1, .p 5 0)]
def hpTr_0 : LE := [(5, .b ⟨100, .l [.b false, .b false, .b false, .b false, .b false, .b false, .b false, .b false, .b false, .b true, .b false, .b false, .b false, .b false, .b false, .b false, .b false, .b false, .b false, .b false, .b false, .b false, .b false, .b false, .b false, .b false, .b false, .b false, .b false, .b false, .b false, .b false, .b true, .b false, .b false, .b false, .b false, .b false, .b false, .b false, .b false, .b false, .b false, .b false, .b false, .b false, .b false, .b false, .b false, .b false, .b false, .b false, .b false, .b false, .b false, .b false, .b false, .b false, .b false, .b false, .b false, .b false, .b false, .b false, .b false, .b false, .b false, .b false, .b false, .b false, .b false, .b false, .b false, .b false, .b false, .b false, .b false, .b false, .b false, .b false, .b false, .b false, .b false, .b false, .b false, .b false, .b false, .b false, .b false, .b false, .b false, .b false, .b false, .b false, .b false, .b false, .b false, .b false, .b false, .b false, .b false, .b false, .b false, .b false, .b false, .b false, .b false, .b false, .b false, .b false, .b false, .b false, .b false, .b false, .b false, .b false, .b false, .b false, .b false, .b false, .b false, .b false, .b false, .b false, .b false, .b false, .b false, .b false, .b false, .b false, .b false, .b false, .b false, .b false, .b false, .b false, .b false, .b false, .b false, .b false, .b false, .b false, .b false, .b false, .b false, .b false, .b false, .b false, .b false, .b false, .b false, .b false, .b false, .b false, .b false, .b false, .b false, .b false, .b false, .b false, .b false, .b false, .b false, .b false, .b false, .b false, .b false, .b false, .b false, .b false, .b false, .b false, .b false, .b false, .b false, .b false, .b false, .b false, .b false, .b false, .b false, .b false, .b false, .b false, .b false, .b false, .b false, .b false, .b false, .b false, .b false, .b false, .b false, .b false, .b false, .b false, .b false, .b false, .b false, .b false, .b false, .b false, .b false, .b false, .b false, .b false, .b false, .b false, .b false, .b false, .b false, .b false, .b false, .b false, .b false, .b false, .b false, .b false, .b false, .b false, .b false, .b false, .b false, .b false, .b false, .b false, .b false, .b false, .b false, .b false, .b false, .b false, .b false, .b false, .b false, .b false, .b false, .b false, .b false, .b false, .b false, .b false, .b false, .b false, .b false, .b false, .b false, .b false, .b false, .b false, .b false, .b false, .b false, .b false, .b false, .b false], 0, 0, 0, false, false⟩)]
def nuTr_0 (T t : LB) : List Value := [St' t, .int .i64 ((t.length : Int)), .int .i64 ((t.length : Int)), .int .i64 ((t.length : Int) - 1), .int .u8 (bt t (Int.toNat ((t.length : Int) - 1))), St' (List.take (Int.toNat ((t.length : Int) - 1)) t), .int .i64 ((t.length : Int)), .int .i64 ((t.length : Int) - 1), .int .u8 (bt t (Int.toNat ((t.length : Int) - 1)))]
def roTr_0 (T t : LB) : List Value := []
def epTr (st : Nat × LB) : LA := epTr_0
def hpTr (st : Nat × LB) : LE := hpTr_0
def nuTr (T : LB) (st : Nat × LB) : List Value := nuTr_0 T (st.2)
def roTr (T : LB) (st : Nat × LB) : List Value := roTr_0 T (st.2)
theorem onTr (T : LB) (st : Nat × LB) : ∀ j, (nuL (nuTr T st) j).oneCell' = true := by
  intro j
  unfold nuTr
  exact nuL_one (l := nuTr_0 T (st.2)) rfl j
theorem ebTr (st : Nat × LB) : (lfB (epTr st) && lfC keepTr) = true := by
  unfold epTr
  rfl
noncomputable def DTr (T : LB) (st : Nat × LB) (X : Nat → Value) : Cx := cx (nuX (nuTr T st) (rX (roTr T st) X)) (nuX_one (onTr T st)) 0 laidE laidE_stab
def InvTr (T : LB) (st : Nat × LB) : Prop := (trR (st.2) = T) ∧ ((st.2).length ≤ 140737488355328) ∧ ((st.1) < 1)
abbrev CjTr (T : LB) (tag : Nat) (t : LB) : Prop := (trR t = T) ∧ (t.length ≤ 140737488355328) ∧ (tag < 1)
theorem mkITr (T : LB) (tag : Nat) (t : LB) (h : CjTr T tag t) : InvTr T (tag, t) := h
theorem unITr (T : LB) (tag : Nat) (t : LB) (h : InvTr T (tag, t)) : (trR t = T) ∧ (t.length ≤ 140737488355328) ∧ (tag < 1) := h
def muTr (T : LB) (st : Nat × LB) : Nat := (st.2).length
abbrev RHTr (T : LB) (E' : Cx) (ex' : Ex) (epx' : LA) (hpx' : LE) (st : Nat × LB) (X : Nat → Value) : Prop := RoundH E' bodyTr keepTr 22 ex' 4 6 6 6 epTr hpTr epx' hpx' (InvTr T) (muTr T) (DTr T) st X
noncomputable abbrev RNTr_0 (h : LK) (x : Ex) (th : LA) (sg : List (Nat × Nat)) (m : Nat) (ep : LA) (hp : LE) : Bool := okRdH (code (tbl h) 400 [] bodyTr (envOf (headOf epTr_0 keepTr) 22) ⟨lhSet hpTr_0 .leaf, 6, 0, 0⟩) x keepTr 22 6 th sg 6 m ep hp
theorem stTr_0 (T t : LB) {X : Nat → Value} {h : LK} (y : Nat × LB) {th : LA} {sg : List (Nat × Nat)} (ho : ∀ a' r', (a', r') ∈ h → HOk (cx (nuX (nuTr_0 T t) (rX (roTr_0 T t) X)) (nuX_one (nuL_one (l := nuTr_0 T t) rfl)) 0 laidE laidE_stab) a' r') (hy : InvTr T y) (lt : muTr T y < muTr T (0, t)) (ht : ThOk (cx (nuX (nuTr_0 T t) (rX (roTr_0 T t) X)) (nuX_one (nuL_one (l := nuTr_0 T t) rfl)) 0 laidE laidE_stab) (DTr T y X) th) (run : RNTr_0 h .normal th sg 6 (epTr y) (hpTr y) = true) : RHTr T E' x' e' h' (0, t) X :=
  RoundH.next (tb := tbl h) (L := []) (f := 400) y ((tabkOk _ _).hyps ho) (LpOk.nil _) rfl hy lt ht run
theorem lvTr_0 (T t : LB) {X : Nat → Value} {h : LK} {th : LA} {sg : List (Nat × Nat)} (hne : exB x' .normal = false) (ho : ∀ a' r', (a', r') ∈ h → HOk (cx (nuX (nuTr_0 T t) (rX (roTr_0 T t) X)) (nuX_one (nuL_one (l := nuTr_0 T t) rfl)) 0 laidE laidE_stab) a' r') (ht : ThOk (cx (nuX (nuTr_0 T t) (rX (roTr_0 T t) X)) (nuX_one (nuL_one (l := nuTr_0 T t) rfl)) 0 laidE laidE_stab) E' th) (run : RNTr_0 h x' th sg 6 e' h' = true) : RHTr T E' x' e' h' (0, t) X :=
  RoundH.leave (tb := tbl h) (L := []) (f := 400) ((tabkOk _ _).hyps ho) (LpOk.nil _) rfl hne ht run
def hyTr_p0 : LK := [(.len (.x 0), .x 1), (.bin .gtr (.x 1) (.i .i64 (.ofNat 0)), .b false)]
theorem runTr_p0 : RNTr_0 hyTr_p0 (.exit 0) [(0, .x 0)] [] 6 [(0, .x 0)] [(5, .b ⟨100, .l [.b false, .b false, .b false, .b false, .b false, .b false, .b false, .b false, .b false, .b true, .b false, .b false, .b false, .b false, .b false, .b false, .b false, .b false, .b false, .b false, .b false, .b false, .b false, .b false, .b false, .b false, .b false, .b false, .b false, .b false, .b false, .b false, .b true, .b false, .b false, .b false, .b false, .b false, .b false, .b false, .b false, .b false, .b false, .b false, .b false, .b false, .b false, .b false, .b false, .b false, .b false, .b false, .b false, .b false, .b false, .b false, .b false, .b false, .b false, .b false, .b false, .b false, .b false, .b false, .b false, .b false, .b false, .b false, .b false, .b false, .b false, .b false, .b false, .b false, .b false, .b false, .b false, .b false, .b false, .b false, .b false, .b false, .b false, .b false, .b false, .b false, .b false, .b false, .b false, .b false, .b false, .b false, .b false, .b false, .b false, .b false, .b false, .b false, .b false, .b false, .b false, .b false, .b false, .b false, .b false, .b false, .b false, .b false, .b false, .b false, .b false, .b false, .b false, .b false, .b false, .b false, .b false, .b false, .b false, .b false, .b false, .b false, .b false, .b false, .b false, .b false, .b false, .b false, .b false, .b false, .b false, .b false, .b false, .b false, .b false, .b false, .b false, .b false, .b false, .b false, .b false, .b false, .b false, .b false, .b false, .b false, .b false, .b false, .b false, .b false, .b false, .b false, .b false, .b false, .b false, .b false, .b false, .b false, .b false, .b false, .b false, .b false, .b false, .b false, .b false, .b false, .b false, .b false, .b false, .b false, .b false, .b false, .b false, .b false, .b false, .b false, .b false, .b false, .b false, .b false, .b false, .b false, .b false, .b false, .b false, .b false, .b false, .b false, .b false, .b false, .b false, .b false, .b false, .b false, .b false, .b false, .b false, .b false, .b false, .b false, .b false, .b false, .b false, .b false, .b false, .b false, .b false, .b false, .b false, .b false, .b false, .b false, .b false, .b false, .b false, .b false, .b false, .b false, .b false, .b false, .b false, .b false, .b false, .b false, .b false, .b false, .b false, .b false, .b false, .b false, .b false, .b false, .b false, .b false, .b false, .b false, .b false, .b false, .b false, .b false, .b false, .b false, .b false, .b false, .b false, .b false, .b false, .b false, .b false, .b false, .b false, .b false, .b false, .b false, .b false, .b false], 0, 0, 0, false, false⟩)] = true := by kernel_rfl
def hyTr_p1 : LK := [(.len (.x 0), .x 2), (.bin .gtr (.x 2) (.i .i64 (.ofNat 0)), .b true), (.bin .sub (.x 2) (.i .i64 (.ofNat 1)), .x 3), (.idx (.x 0) (.x 3), .x 4), (.tab [.b false, .b false, .b false, .b false, .b false, .b false, .b false, .b false, .b false, .b true, .b false, .b false, .b false, .b false, .b false, .b false, .b false, .b false, .b false, .b false, .b false, .b false, .b false, .b false, .b false, .b false, .b false, .b false, .b false, .b false, .b false, .b false, .b true, .b false, .b false, .b false, .b false, .b false, .b false, .b false, .b false, .b false, .b false, .b false, .b false, .b false, .b false, .b false, .b false, .b false, .b false, .b false, .b false, .b false, .b false, .b false, .b false, .b false, .b false, .b false, .b false, .b false, .b false, .b false, .b false, .b false, .b false, .b false, .b false, .b false, .b false, .b false, .b false, .b false, .b false, .b false, .b false, .b false, .b false, .b false, .b false, .b false, .b false, .b false, .b false, .b false, .b false, .b false, .b false, .b false, .b false, .b false, .b false, .b false, .b false, .b false, .b false, .b false, .b false, .b false, .b false, .b false, .b false, .b false, .b false, .b false, .b false, .b false, .b false, .b false, .b false, .b false, .b false, .b false, .b false, .b false, .b false, .b false, .b false, .b false, .b false, .b false, .b false, .b false, .b false, .b false, .b false, .b false, .b false, .b false, .b false, .b false, .b false, .b false, .b false, .b false, .b false, .b false, .b false, .b false, .b false, .b false, .b false, .b false, .b false, .b false, .b false, .b false, .b false, .b false, .b false, .b false, .b false, .b false, .b false, .b false, .b false, .b false, .b false, .b false, .b false, .b false, .b false, .b false, .b false, .b false, .b false, .b false, .b false, .b false, .b false, .b false, .b false, .b false, .b false, .b false, .b false, .b false, .b false, .b false, .b false, .b false, .b false, .b false, .b false, .b false, .b false, .b false, .b false, .b false, .b false, .b false, .b false, .b false, .b false, .b false, .b false, .b false, .b false, .b false, .b false, .b false, .b false, .b false, .b false, .b false, .b false, .b false, .b false, .b false, .b false, .b false, .b false, .b false, .b false, .b false, .b false, .b false, .b false, .b false, .b false, .b false, .b false, .b false, .b false, .b false, .b false, .b false, .b false, .b false, .b false, .b false, .b false, .b false, .b false, .b false, .b false, .b false, .b false, .b false, .b false, .b false, .b false, .b false, .b false, .b false, .b false, .b false, .b false, .b false, .b false, .b false, .b false, .b false, .b false, .b false] (.x 4), .b true), (.sub (.x 0) none (some (.x 3)), .x 5)]
theorem runTr_p1 : RNTr_0 hyTr_p1 .normal [(0, .x 5)] [] 6 epTr_0 hpTr_0 = true := by kernel_rfl
theorem nxTr_p1 (T : LB) (t : LB) (X : Nat → Value) (hI : InvTr T (0, t)) (h0 : 0 < (t.length : Int)) (h1 : tb8 4294967808 (bt t (Int.toNat ((t.length : Int) - 1))) = true) : RHTr T E' x' e' h' (0, t) X := by
  obtain ⟨i0, i1, it⟩ := unITr T 0 t hI
  have := bt_lo t (Int.toNat ((t.length : Int) - 1)); have := bt_hi t (Int.toNat ((t.length : Int) - 1))
  have := lenTake (l := t) (Q := (t.length : Int) - 1) (by omega) (by omega)
  refine stTr_0 T t (h := hyTr_p1) (0, (List.take (Int.toNat ((t.length : Int) - 1)) t)) ?_ (mkITr T 0 (List.take (Int.toNat ((t.length : Int) - 1)) t) ⟨by rw [← i0]; exact trR_step (i := (Int.toNat ((t.length : Int) - 1))) (by omega) (by assumption), by rw [List.length_take]; omega⟩) (by show (List.take (Int.toNat ((t.length : Int) - 1)) t).length < t.length; rw [List.length_take]; omega) (thXv (v := St' (List.take (Int.toNat ((t.length : Int) - 1)) t)) rfl rfl (thNil)) runTr_p1
  unfold hyTr_p1
  exact hc (lnV rfl rfl (by omega)) <|
   hc (gtcT rfl (by omega)) <|
   hc (sbC rfl rfl (by omega)) <|
   hc (ixV rfl rfl rfl (by omega)) <|
   hc (kTabB 4294967808 (by kernel_rfl) (isX rfl) (by omega) (by omega) ((by assumption))) <|
   hc (tkV rfl rfl rfl (by omega)) <|
   hnil
def hyTr_p2 : LK := [(.len (.x 0), .x 6), (.bin .gtr (.x 6) (.i .i64 (.ofNat 0)), .b true), (.bin .sub (.x 6) (.i .i64 (.ofNat 1)), .x 7), (.idx (.x 0) (.x 7), .x 8), (.tab [.b false, .b false, .b false, .b false, .b false, .b false, .b false, .b false, .b false, .b true, .b false, .b false, .b false, .b false, .b false, .b false, .b false, .b false, .b false, .b false, .b false, .b false, .b false, .b false, .b false, .b false, .b false, .b false, .b false, .b false, .b false, .b false, .b true, .b false, .b false, .b false, .b false, .b false, .b false, .b false, .b false, .b false, .b false, .b false, .b false, .b false, .b false, .b false, .b false, .b false, .b false, .b false, .b false, .b false, .b false, .b false, .b false, .b false, .b false, .b false, .b false, .b false, .b false, .b false, .b false, .b false, .b false, .b false, .b false, .b false, .b false, .b false, .b false, .b false, .b false, .b false, .b false, .b false, .b false, .b false, .b false, .b false, .b false, .b false, .b false, .b false, .b false, .b false, .b false, .b false, .b false, .b false, .b false, .b false, .b false, .b false, .b false, .b false, .b false, .b false, .b false, .b false, .b false, .b false, .b false, .b false, .b false, .b false, .b false, .b false, .b false, .b false, .b false, .b false, .b false, .b false, .b false, .b false, .b false, .b false, .b false, .b false, .b false, .b false, .b false, .b false, .b false, .b false, .b false, .b false, .b false, .b false, .b false, .b false, .b false, .b false, .b false, .b false, .b false, .b false, .b false, .b false, .b false, .b false, .b false, .b false, .b false, .b false, .b false, .b false, .b false, .b false, .b false, .b false, .b false, .b false, .b false, .b false, .b false, .b false, .b false, .b false, .b false, .b false, .b false, .b false, .b false, .b false, .b false, .b false, .b false, .b false, .b false, .b false, .b false, .b false, .b false, .b false, .b false, .b false, .b false, .b false, .b false, .b false, .b false, .b false, .b false, .b false, .b false, .b false, .b false, .b false, .b false, .b false, .b false, .b false, .b false, .b false, .b false, .b false, .b false, .b false, .b false, .b false, .b false, .b false, .b false, .b false, .b false, .b false, .b false, .b false, .b false, .b false, .b false, .b false, .b false, .b false, .b false, .b false, .b false, .b false, .b false, .b false, .b false, .b false, .b false, .b false, .b false, .b false, .b false, .b false, .b false, .b false, .b false, .b false, .b false, .b false, .b false, .b false, .b false, .b false, .b false, .b false, .b false, .b false, .b false, .b false, .b false, .b false, .b false, .b false, .b false, .b false, .b false, .b false] (.x 8), .b false)]
theorem runTr_p2 : RNTr_0 hyTr_p2 (.exit 0) [(0, .x 0)] [] 6 [(0, .x 0)] [(5, .b ⟨100, .l [.b false, .b false, .b false, .b false, .b false, .b false, .b false, .b false, .b false, .b true, .b false, .b false, .b false, .b false, .b false, .b false, .b false, .b false, .b false, .b false, .b false, .b false, .b false, .b false, .b false, .b false, .b false, .b false, .b false, .b false, .b false, .b false, .b true, .b false, .b false, .b false, .b false, .b false, .b false, .b false, .b false, .b false, .b false, .b false, .b false, .b false, .b false, .b false, .b false, .b false, .b false, .b false, .b false, .b false, .b false, .b false, .b false, .b false, .b false, .b false, .b false, .b false, .b false, .b false, .b false, .b false, .b false, .b false, .b false, .b false, .b false, .b false, .b false, .b false, .b false, .b false, .b false, .b false, .b false, .b false, .b false, .b false, .b false, .b false, .b false, .b false, .b false, .b false, .b false, .b false, .b false, .b false, .b false, .b false, .b false, .b false, .b false, .b false, .b false, .b false, .b false, .b false, .b false, .b false, .b false, .b false, .b false, .b false, .b false, .b false, .b false, .b false, .b false, .b false, .b false, .b false, .b false, .b false, .b false, .b false, .b false, .b false, .b false, .b false, .b false, .b false, .b false, .b false, .b false, .b false, .b false, .b false, .b false, .b false, .b false, .b false, .b false, .b false, .b false, .b false, .b false, .b false, .b false, .b false, .b false, .b false, .b false, .b false, .b false, .b false, .b false, .b false, .b false, .b false, .b false, .b false, .b false, .b false, .b false, .b false, .b false, .b false, .b false, .b false, .b false, .b false, .b false, .b false, .b false, .b false, .b false, .b false, .b false, .b false, .b false, .b false, .b false, .b false, .b false, .b false, .b false, .b false, .b false, .b false, .b false, .b false, .b false, .b false, .b false, .b false, .b false, .b false, .b false, .b false, .b false, .b false, .b false, .b false, .b false, .b false, .b false, .b false, .b false, .b false, .b false, .b false, .b false, .b false, .b false, .b false, .b false, .b false, .b false, .b false, .b false, .b false, .b false, .b false, .b false, .b false, .b false, .b false, .b false, .b false, .b false, .b false, .b false, .b false, .b false, .b false, .b false, .b false, .b false, .b false, .b false, .b false, .b false, .b false, .b false, .b false, .b false, .b false, .b false, .b false, .b false, .b false, .b false, .b false, .b false, .b false, .b false, .b false, .b false, .b false, .b false, .b false], 0, 0, 0, false, false⟩)] = true := by kernel_rfl
def nuETr_0 (T : LB) : List Value := [St' T]
def roETr_0 (T : LB) : List Value := []
noncomputable def ETr_0 (T : LB) : Cx := cx (nuX (nuETr_0 T) (rX (roETr_0 T) (fun _ => .bool true))) (nuX_one (nuL_one (l := nuETr_0 T) rfl)) 0 laidE laidE_stab
theorem roundsTr_0 (T : LB) (st : Nat × LB) (X : Nat → Value) (hI : InvTr T st) : RHTr T (ETr_0 T) (.exit 0) [(0, .x 0)] [(5, .b ⟨100, .l [.b false, .b false, .b false, .b false, .b false, .b false, .b false, .b false, .b false, .b true, .b false, .b false, .b false, .b false, .b false, .b false, .b false, .b false, .b false, .b false, .b false, .b false, .b false, .b false, .b false, .b false, .b false, .b false, .b false, .b false, .b false, .b false, .b true, .b false, .b false, .b false, .b false, .b false, .b false, .b false, .b false, .b false, .b false, .b false, .b false, .b false, .b false, .b false, .b false, .b false, .b false, .b false, .b false, .b false, .b false, .b false, .b false, .b false, .b false, .b false, .b false, .b false, .b false, .b false, .b false, .b false, .b false, .b false, .b false, .b false, .b false, .b false, .b false, .b false, .b false, .b false, .b false, .b false, .b false, .b false, .b false, .b false, .b false, .b false, .b false, .b false, .b false, .b false, .b false, .b false, .b false, .b false, .b false, .b false, .b false, .b false, .b false, .b false, .b false, .b false, .b false, .b false, .b false, .b false, .b false, .b false, .b false, .b false, .b false, .b false, .b false, .b false, .b false, .b false, .b false, .b false, .b false, .b false, .b false, .b false, .b false, .b false, .b false, .b false, .b false, .b false, .b false, .b false, .b false, .b false, .b false, .b false, .b false, .b false, .b false, .b false, .b false, .b false, .b false, .b false, .b false, .b false, .b false, .b false, .b false, .b false, .b false, .b false, .b false, .b false, .b false, .b false, .b false, .b false, .b false, .b false, .b false, .b false, .b false, .b false, .b false, .b false, .b false, .b false, .b false, .b false, .b false, .b false, .b false, .b false, .b false, .b false, .b false, .b false, .b false, .b false, .b false, .b false, .b false, .b false, .b false, .b false, .b false, .b false, .b false, .b false, .b false, .b false, .b false, .b false, .b false, .b false, .b false, .b false, .b false, .b false, .b false, .b false, .b false, .b false, .b false, .b false, .b false, .b false, .b false, .b false, .b false, .b false, .b false, .b false, .b false, .b false, .b false, .b false, .b false, .b false, .b false, .b false, .b false, .b false, .b false, .b false, .b false, .b false, .b false, .b false, .b false, .b false, .b false, .b false, .b false, .b false, .b false, .b false, .b false, .b false, .b false, .b false, .b false, .b false, .b false, .b false, .b false, .b false, .b false, .b false, .b false, .b false, .b false, .b false, .b false, .b false, .b false, .b false, .b false, .b false], 0, 0, 0, false, false⟩)] st X := by
  obtain ⟨tag, t⟩ := st
  have hI0 := hI
  obtain ⟨i0, i1, it⟩ := unITr T tag t hI
  obtain rfl : tag = 0 := by omega
  skip
  by_cases h0 : 0 < (t.length : Int)
  · by_cases h1 : tb8 4294967808 (bt t (Int.toNat ((t.length : Int) - 1))) = true
    · exact nxTr_p1 T t X hI0 h0 h1
    · skip
      have := bt_lo t (Int.toNat ((t.length : Int) - 1)); have := bt_hi t (Int.toNat ((t.length : Int) - 1))
      refine lvTr_0 T t (h := hyTr_p2) rfl ?_ (thXe (v := St' t) (u := St' T) rfl rfl (congrArg (fun l => St' l) (by rw [← i0]; exact (trR_end (i := (Int.toNat ((t.length : Int) - 1))) (by omega) (by assumption)).symm)) (thNil)) runTr_p2
      unfold hyTr_p2
      exact hc (lnV rfl rfl (by omega)) <|
       hc (gtcT rfl (by omega)) <|
       hc (sbC rfl rfl (by omega)) <|
       hc (ixV rfl rfl rfl (by omega)) <|
       hc (kTabB 4294967808 (by kernel_rfl) (isX rfl) (by omega) (by omega) (tbF (by assumption))) <|
       hnil
  · skip
    refine lvTr_0 T t (h := hyTr_p0) rfl ?_ (thXe (v := St' t) (u := St' T) rfl rfl (congrArg (fun l => St' l) (by rw [← i0]; exact (trR_nil (by omega)).symm)) (thNil)) runTr_p0
    unfold hyTr_p0
    exact hc (lnV rfl rfl (by omega)) <|
     hc (gtcF rfl (by omega)) <|
     hnil
theorem lfOkTr_0 {l : LF} {h : LH} (T : LB) (st : Nat × LB) (hI : InvTr T st) (hl : l.hp = some h) (hs : lfSame l h 22 keepTr (.exit 0) 4 6 6 = true) {th0 : LA} {sg0 : List (Nat × Nat)} (hth0 : ∀ X, ThOk (cx nu one 0 laidE laidE_stab) (DTr T st X) th0) (h0 : startOk l h 22 6 6 th0 sg0 (epTr st) (hpTr st) = true) {thx : LA} (hthx : ThOk (ETr_0 T) (cx nu one 0 laidE laidE_stab) thx) (hx : exitOk l h 22 6 6 thx [(0, .x 0)] [(5, .b ⟨100, .l [.b false, .b false, .b false, .b false, .b false, .b false, .b false, .b false, .b false, .b true, .b false, .b false, .b false, .b false, .b false, .b false, .b false, .b false, .b false, .b false, .b false, .b false, .b false, .b false, .b false, .b false, .b false, .b false, .b false, .b false, .b false, .b false, .b true, .b false, .b false, .b false, .b false, .b false, .b false, .b false, .b false, .b false, .b false, .b false, .b false, .b false, .b false, .b false, .b false, .b false, .b false, .b false, .b false, .b false, .b false, .b false, .b false, .b false, .b false, .b false, .b false, .b false, .b false, .b false, .b false, .b false, .b false, .b false, .b false, .b false, .b false, .b false, .b false, .b false, .b false, .b false, .b false, .b false, .b false, .b false, .b false, .b false, .b false, .b false, .b false, .b false, .b false, .b false, .b false, .b false, .b false, .b false, .b false, .b false, .b false, .b false, .b false, .b false, .b false, .b false, .b false, .b false, .b false, .b false, .b false, .b false, .b false, .b false, .b false, .b false, .b false, .b false, .b false, .b false, .b false, .b false, .b false, .b false, .b false, .b false, .b false, .b false, .b false, .b false, .b false, .b false, .b false, .b false, .b false, .b false, .b false, .b false, .b false, .b false, .b false, .b false, .b false, .b false, .b false, .b false, .b false, .b false, .b false, .b false, .b false, .b false, .b false, .b false, .b false, .b false, .b false, .b false, .b false, .b false, .b false, .b false, .b false, .b false, .b false, .b false, .b false, .b false, .b false, .b false, .b false, .b false, .b false, .b false, .b false, .b false, .b false, .b false, .b false, .b false, .b false, .b false, .b false, .b false, .b false, .b false, .b false, .b false, .b false, .b false, .b false, .b false, .b false, .b false, .b false, .b false, .b false, .b false, .b false, .b false, .b false, .b false, .b false, .b false, .b false, .b false, .b false, .b false, .b false, .b false, .b false, .b false, .b false, .b false, .b false, .b false, .b false, .b false, .b false, .b false, .b false, .b false, .b false, .b false, .b false, .b false, .b false, .b false, .b false, .b false, .b false, .b false, .b false, .b false, .b false, .b false, .b false, .b false, .b false, .b false, .b false, .b false, .b false, .b false, .b false, .b false, .b false, .b false, .b false, .b false, .b false, .b false, .b false, .b false, .b false, .b false, .b false, .b false, .b false, .b false, .b false, .b false], 0, 0, 0, false, false⟩)] = true) : LfOk (cx nu one 0 laidE laidE_stab) bodyTr l :=
  lfOkX (E := ETr_0 T) (InvTr T) (muTr T) (DTr T) (fun _ _ => rfl) (fun _ _ => rfl) (fun _ _ => rfl) (fun st X t ht => nuX_keep.trans (rX_keep ((by decide : ∀ t, t ∈ keepTr → t < 1000000) t ht))) rfl rfl rfl hl hs ebTr rfl rfl st hI hth0 h0 hthx hx (roundsTr_0 T)
noncomputable def bodyTl : Code := loopNo (Tryd.f58.body.getD .skip) 0
theorem keyTl : oneKey (loopsOf (Tryd.f58.body.getD .skip)) 1 0 0 = true := by kernel_rfl
def keepTl : List Nat := []
def epTl_0 : LA := [(0, .x 0), (1, .p 5 0)]
def hpTl_0 : LE := [(5, .b ⟨100, .l [.b false, .b false, .b false, .b false, .b false, .b false, .b false, .b false, .b false, .b true, .b false, .b false, .b false, .b false, .b false, .b false, .b false, .b false, .b false, .b false, .b false, .b false, .b false, .b false, .b false, .b false, .b false, .b false, .b false, .b false, .b false, .b false, .b true, .b false, .b false, .b false, .b false, .b false, .b false, .b false, .b false, .b false, .b false, .b false, .b false, .b false, .b false, .b false, .b false, .b false, .b false, .b false, .b false, .b false, .b false, .b false, .b false, .b false, .b false, .b false, .b false, .b false, .b false, .b false, .b false, .b false, .b false, .b false, .b false, .b false, .b false, .b false, .b false, .b false, .b false, .b false, .b false, .b false, .b false, .b false, .b false, .b false, .b false, .b false, .b false, .b false, .b false, .b false, .b false, .b false, .b false, .b false, .b false, .b false, .b false, .b false, .b false, .b false, .b false, .b false, .b false, .b false, .b false, .b false, .b false, .b false, .b false, .b false, .b false, .b false, .b false, .b false, .b false, .b false, .b false, .b false, .b false, .b false, .b false, .b false, .b false, .b false, .b false, .b false, .b false, .b false, .b false, .b false, .b false, .b false, .b false, .b false, .b false, .b false, .b false, .b false, .b false, .b false, .b false, .b false, .b false, .b false, .b false, .b false, .b false, .b false, .b false, .b false, .b false, .b false, .b false, .b false, .b false, .b false, .b false, .b false, .b false, .b false, .b false, .b false, .b false, .b false, .b false, .b false, .b false, .b false, .b false, .b false, .b false, .b false, .b false, .b false, .b false, .b false, .b false, .b false, .b false, .b false, .b false, .b false, .b false, .b false, .b false, .b false, .b false, .b false, .b false, .b false, .b false, .b false, .b false, .b false, .b false, .b false, .b false, .b false, .b false, .b false, .b false, .b false, .b false, .b false, .b false, .b false, .b false, .b false, .b false, .b false, .b false, .b false, .b false, .b false, .b false, .b false, .b false, .b false, .b false, .b false, .b false, .b false, .b false, .b false, .b false, .b false, .b false, .b false, .b false, .b false, .b false, .b false, .b false, .b false, .b false, .b false, .b false, .b false, .b false, .b false, .b false, .b false, .b false, .b false, .b false, .b false, .b false, .b false, .b false, .b false, .b false, .b false, .b false, .b false, .b false, .b false, .b false, .b false], 0, 0, 0, false, false⟩)]
def nuTl_0 (T t : LB) : List Value := [St' t, .int .i64 ((t.length : Int)), .int .i64 ((t.length : Int)), .int .u8 (bt t 0), St' (List.drop (Int.toNat (1)) t), .int .i64 ((t.length : Int)), .int .u8 (bt t 0)]
def roTl_0 (T t : LB) : List Value := []
def epTl (st : Nat × LB) : LA := epTl_0
def hpTl (st : Nat × LB) : LE := hpTl_0
def nuTl (T : LB) (st : Nat × LB) : List Value := nuTl_0 T (st.2)
def roTl (T : LB) (st : Nat × LB) : List Value := roTl_0 T (st.2)
theorem onTl (T : LB) (st : Nat × LB) : ∀ j, (nuL (nuTl T st) j).oneCell' = true := by
  intro j
  unfold nuTl
  exact nuL_one (l := nuTl_0 T (st.2)) rfl j
theorem ebTl (st : Nat × LB) : (lfB (epTl st) && lfC keepTl) = true := by
  unfold epTl
  rfl
noncomputable def DTl (T : LB) (st : Nat × LB) (X : Nat → Value) : Cx := cx (nuX (nuTl T st) (rX (roTl T st) X)) (nuX_one (onTl T st)) 0 laidE laidE_stab
def InvTl (T : LB) (st : Nat × LB) : Prop := (trL (st.2) = T) ∧ ((st.2).length ≤ 140737488355328) ∧ ((st.1) < 1)
abbrev CjTl (T : LB) (tag : Nat) (t : LB) : Prop := (trL t = T) ∧ (t.length ≤ 140737488355328) ∧ (tag < 1)
theorem mkITl (T : LB) (tag : Nat) (t : LB) (h : CjTl T tag t) : InvTl T (tag, t) := h
theorem unITl (T : LB) (tag : Nat) (t : LB) (h : InvTl T (tag, t)) : (trL t = T) ∧ (t.length ≤ 140737488355328) ∧ (tag < 1) := h
def muTl (T : LB) (st : Nat × LB) : Nat := (st.2).length
abbrev RHTl (T : LB) (E' : Cx) (ex' : Ex) (epx' : LA) (hpx' : LE) (st : Nat × LB) (X : Nat → Value) : Prop := RoundH E' bodyTl keepTl 16 ex' 4 6 6 6 epTl hpTl epx' hpx' (InvTl T) (muTl T) (DTl T) st X
noncomputable abbrev RNTl_0 (h : LK) (x : Ex) (th : LA) (sg : List (Nat × Nat)) (m : Nat) (ep : LA) (hp : LE) : Bool := okRdH (code (tbl h) 400 [] bodyTl (envOf (headOf epTl_0 keepTl) 16) ⟨lhSet hpTl_0 .leaf, 6, 0, 0⟩) x keepTl 16 6 th sg 6 m ep hp
theorem stTl_0 (T t : LB) {X : Nat → Value} {h : LK} (y : Nat × LB) {th : LA} {sg : List (Nat × Nat)} (ho : ∀ a' r', (a', r') ∈ h → HOk (cx (nuX (nuTl_0 T t) (rX (roTl_0 T t) X)) (nuX_one (nuL_one (l := nuTl_0 T t) rfl)) 0 laidE laidE_stab) a' r') (hy : InvTl T y) (lt : muTl T y < muTl T (0, t)) (ht : ThOk (cx (nuX (nuTl_0 T t) (rX (roTl_0 T t) X)) (nuX_one (nuL_one (l := nuTl_0 T t) rfl)) 0 laidE laidE_stab) (DTl T y X) th) (run : RNTl_0 h .normal th sg 6 (epTl y) (hpTl y) = true) : RHTl T E' x' e' h' (0, t) X :=
  RoundH.next (tb := tbl h) (L := []) (f := 400) y ((tabkOk _ _).hyps ho) (LpOk.nil _) rfl hy lt ht run
theorem lvTl_0 (T t : LB) {X : Nat → Value} {h : LK} {th : LA} {sg : List (Nat × Nat)} (hne : exB x' .normal = false) (ho : ∀ a' r', (a', r') ∈ h → HOk (cx (nuX (nuTl_0 T t) (rX (roTl_0 T t) X)) (nuX_one (nuL_one (l := nuTl_0 T t) rfl)) 0 laidE laidE_stab) a' r') (ht : ThOk (cx (nuX (nuTl_0 T t) (rX (roTl_0 T t) X)) (nuX_one (nuL_one (l := nuTl_0 T t) rfl)) 0 laidE laidE_stab) E' th) (run : RNTl_0 h x' th sg 6 e' h' = true) : RHTl T E' x' e' h' (0, t) X :=
  RoundH.leave (tb := tbl h) (L := []) (f := 400) ((tabkOk _ _).hyps ho) (LpOk.nil _) rfl hne ht run
def hyTl_p0 : LK := [(.len (.x 0), .x 1), (.bin .gtr (.x 1) (.i .i64 (.ofNat 0)), .b false)]
theorem runTl_p0 : RNTl_0 hyTl_p0 (.exit 0) [(0, .x 0)] [] 6 [(0, .x 0)] [(5, .b ⟨100, .l [.b false, .b false, .b false, .b false, .b false, .b false, .b false, .b false, .b false, .b true, .b false, .b false, .b false, .b false, .b false, .b false, .b false, .b false, .b false, .b false, .b false, .b false, .b false, .b false, .b false, .b false, .b false, .b false, .b false, .b false, .b false, .b false, .b true, .b false, .b false, .b false, .b false, .b false, .b false, .b false, .b false, .b false, .b false, .b false, .b false, .b false, .b false, .b false, .b false, .b false, .b false, .b false, .b false, .b false, .b false, .b false, .b false, .b false, .b false, .b false, .b false, .b false, .b false, .b false, .b false, .b false, .b false, .b false, .b false, .b false, .b false, .b false, .b false, .b false, .b false, .b false, .b false, .b false, .b false, .b false, .b false, .b false, .b false, .b false, .b false, .b false, .b false, .b false, .b false, .b false, .b false, .b false, .b false, .b false, .b false, .b false, .b false, .b false, .b false, .b false, .b false, .b false, .b false, .b false, .b false, .b false, .b false, .b false, .b false, .b false, .b false, .b false, .b false, .b false, .b false, .b false, .b false, .b false, .b false, .b false, .b false, .b false, .b false, .b false, .b false, .b false, .b false, .b false, .b false, .b false, .b false, .b false, .b false, .b false, .b false, .b false, .b false, .b false, .b false, .b false, .b false, .b false, .b false, .b false, .b false, .b false, .b false, .b false, .b false, .b false, .b false, .b false, .b false, .b false, .b false, .b false, .b false, .b false, .b false, .b false, .b false, .b false, .b false, .b false, .b false, .b false, .b false, .b false, .b false, .b false, .b false, .b false, .b false, .b false, .b false, .b false, .b false, .b false, .b false, .b false, .b false, .b false, .b false, .b false, .b false, .b false, .b false, .b false, .b false, .b false, .b false, .b false, .b false, .b false, .b false, .b false, .b false, .b false, .b false, .b false, .b false, .b false, .b false, .b false, .b false, .b false, .b false, .b false, .b false, .b false, .b false, .b false, .b false, .b false, .b false, .b false, .b false, .b false, .b false, .b false, .b false, .b false, .b false, .b false, .b false, .b false, .b false, .b false, .b false, .b false, .b false, .b false, .b false, .b false, .b false, .b false, .b false, .b false, .b false, .b false, .b false, .b false, .b false, .b false, .b false, .b false, .b false, .b false, .b false, .b false, .b false, .b false, .b false, .b false, .b false, .b false], 0, 0, 0, false, false⟩)] = true := by kernel_rfl
def hyTl_p1 : LK := [(.len (.x 0), .x 2), (.bin .gtr (.x 2) (.i .i64 (.ofNat 0)), .b true), (.idx (.x 0) (.i .i64 (.ofNat 0)), .x 3), (.tab [.b false, .b false, .b false, .b false, .b false, .b false, .b false, .b false, .b false, .b true, .b false, .b false, .b false, .b false, .b false, .b false, .b false, .b false, .b false, .b false, .b false, .b false, .b false, .b false, .b false, .b false, .b false, .b false, .b false, .b false, .b false, .b false, .b true, .b false, .b false, .b false, .b false, .b false, .b false, .b false, .b false, .b false, .b false, .b false, .b false, .b false, .b false, .b false, .b false, .b false, .b false, .b false, .b false, .b false, .b false, .b false, .b false, .b false, .b false, .b false, .b false, .b false, .b false, .b false, .b false, .b false, .b false, .b false, .b false, .b false, .b false, .b false, .b false, .b false, .b false, .b false, .b false, .b false, .b false, .b false, .b false, .b false, .b false, .b false, .b false, .b false, .b false, .b false, .b false, .b false, .b false, .b false, .b false, .b false, .b false, .b false, .b false, .b false, .b false, .b false, .b false, .b false, .b false, .b false, .b false, .b false, .b false, .b false, .b false, .b false, .b false, .b false, .b false, .b false, .b false, .b false, .b false, .b false, .b false, .b false, .b false, .b false, .b false, .b false, .b false, .b false, .b false, .b false, .b false, .b false, .b false, .b false, .b false, .b false, .b false, .b false, .b false, .b false, .b false, .b false, .b false, .b false, .b false, .b false, .b false, .b false, .b false, .b false, .b false, .b false, .b false, .b false, .b false, .b false, .b false, .b false, .b false, .b false, .b false, .b false, .b false, .b false, .b false, .b false, .b false, .b false, .b false, .b false, .b false, .b false, .b false, .b false, .b false, .b false, .b false, .b false, .b false, .b false, .b false, .b false, .b false, .b false, .b false, .b false, .b false, .b false, .b false, .b false, .b false, .b false, .b false, .b false, .b false, .b false, .b false, .b false, .b false, .b false, .b false, .b false, .b false, .b false, .b false, .b false, .b false, .b false, .b false, .b false, .b false, .b false, .b false, .b false, .b false, .b false, .b false, .b false, .b false, .b false, .b false, .b false, .b false, .b false, .b false, .b false, .b false, .b false, .b false, .b false, .b false, .b false, .b false, .b false, .b false, .b false, .b false, .b false, .b false, .b false, .b false, .b false, .b false, .b false, .b false, .b false, .b false, .b false, .b false, .b false, .b false, .b false, .b false, .b false, .b false, .b false, .b false, .b false] (.x 3), .b true), (.sub (.x 0) (some (.i .i64 (.ofNat 1))) none, .x 4)]
theorem runTl_p1 : RNTl_0 hyTl_p1 .normal [(0, .x 4)] [] 6 epTl_0 hpTl_0 = true := by kernel_rfl
theorem nxTl_p1 (T : LB) (t : LB) (X : Nat → Value) (hI : InvTl T (0, t)) (h0 : 0 < (t.length : Int)) (h1 : tb8 4294967808 (bt t 0) = true) : RHTl T E' x' e' h' (0, t) X := by
  obtain ⟨i0, i1, it⟩ := unITl T 0 t hI
  have := bt_lo t 0; have := bt_hi t 0
  have := lenDrop (l := t) (P := 1) (by omega) (by omega)
  refine stTl_0 T t (h := hyTl_p1) (0, (List.drop (Int.toNat (1)) t)) ?_ (mkITl T 0 (List.drop (Int.toNat (1)) t) ⟨by rw [← i0]; exact trL_step (by omega) (by assumption), by rw [List.length_drop]; omega⟩) (by show (List.drop (Int.toNat (1)) t).length < t.length; rw [List.length_drop]; omega) (thXv (v := St' (List.drop (Int.toNat (1)) t)) rfl rfl (thNil)) runTl_p1
  unfold hyTl_p1
  exact hc (lnV rfl rfl (by omega)) <|
   hc (gtcT rfl (by omega)) <|
   hc (ixC rfl rfl (by omega)) <|
   hc (kTabB 4294967808 (by kernel_rfl) (isX rfl) (by omega) (by omega) ((by assumption))) <|
   hc (drC rfl rfl (by omega)) <|
   hnil
def hyTl_p2 : LK := [(.len (.x 0), .x 5), (.bin .gtr (.x 5) (.i .i64 (.ofNat 0)), .b true), (.idx (.x 0) (.i .i64 (.ofNat 0)), .x 6), (.tab [.b false, .b false, .b false, .b false, .b false, .b false, .b false, .b false, .b false, .b true, .b false, .b false, .b false, .b false, .b false, .b false, .b false, .b false, .b false, .b false, .b false, .b false, .b false, .b false, .b false, .b false, .b false, .b false, .b false, .b false, .b false, .b false, .b true, .b false, .b false, .b false, .b false, .b false, .b false, .b false, .b false, .b false, .b false, .b false, .b false, .b false, .b false, .b false, .b false, .b false, .b false, .b false, .b false, .b false, .b false, .b false, .b false, .b false, .b false, .b false, .b false, .b false, .b false, .b false, .b false, .b false, .b false, .b false, .b false, .b false, .b false, .b false, .b false, .b false, .b false, .b false, .b false, .b false, .b false, .b false, .b false, .b false, .b false, .b false, .b false, .b false, .b false, .b false, .b false, .b false, .b false, .b false, .b false, .b false, .b false, .b false, .b false, .b false, .b false, .b false, .b false, .b false, .b false, .b false, .b false, .b false, .b false, .b false, .b false, .b false, .b false, .b false, .b false, .b false, .b false, .b false, .b false, .b false, .b false, .b false, .b false, .b false, .b false, .b false, .b false, .b false, .b false, .b false, .b false, .b false, .b false, .b false, .b false, .b false, .b false, .b false, .b false, .b false, .b false, .b false, .b false, .b false, .b false, .b false, .b false, .b false, .b false, .b false, .b false, .b false, .b false, .b false, .b false, .b false, .b false, .b false, .b false, .b false, .b false, .b false, .b false, .b false, .b false, .b false, .b false, .b false, .b false, .b false, .b false, .b false, .b false, .b false, .b false, .b false, .b false, .b false, .b false, .b false, .b false, .b false, .b false, .b false, .b false, .b false, .b false, .b false, .b false, .b false, .b false, .b false, .b false, .b false, .b false, .b false, .b false, .b false, .b false, .b false, .b false, .b false, .b false, .b false, .b false, .b false, .b false, .b false, .b false, .b false, .b false, .b false, .b false, .b false, .b false, .b false, .b false, .b false, .b false, .b false, .b false, .b false, .b false, .b false, .b false, .b false, .b false, .b false, .b false, .b false, .b false, .b false, .b false, .b false, .b false, .b false, .b false, .b false, .b false, .b false, .b false, .b false, .b false, .b false, .b false, .b false, .b false, .b false, .b false, .b false, .b false, .b false, .b false, .b false, .b false, .b false, .b false, .b false] (.x 6), .b false)]
theorem runTl_p2 : RNTl_0 hyTl_p2 (.exit 0) [(0, .x 0)] [] 6 [(0, .x 0)] [(5, .b ⟨100, .l [.b false, .b false, .b false, .b false, .b false, .b false, .b false, .b false, .b false, .b true, .b false, .b false, .b false, .b false, .b false, .b false, .b false, .b false, .b false, .b false, .b false, .b false, .b false, .b false, .b false, .b false, .b false, .b false, .b false, .b false, .b false, .b false, .b true, .b false, .b false, .b false, .b false, .b false, .b false, .b false, .b false, .b false, .b false, .b false, .b false, .b false, .b false, .b false, .b false, .b false, .b false, .b false, .b false, .b false, .b false, .b false, .b false, .b false, .b false, .b false, .b false, .b false, .b false, .b false, .b false, .b false, .b false, .b false, .b false, .b false, .b false, .b false, .b false, .b false, .b false, .b false, .b false, .b false, .b false, .b false, .b false, .b false, .b false, .b false, .b false, .b false, .b false, .b false, .b false, .b false, .b false, .b false, .b false, .b false, .b false, .b false, .b false, .b false, .b false, .b false, .b false, .b false, .b false, .b false, .b false, .b false, .b false, .b false, .b false, .b false, .b false, .b false, .b false, .b false, .b false, .b false, .b false, .b false, .b false, .b false, .b false, .b false, .b false, .b false, .b false, .b false, .b false, .b false, .b false, .b false, .b false, .b false, .b false, .b false, .b false, .b false, .b false, .b false, .b false, .b false, .b false, .b false, .b false, .b false, .b false, .b false, .b false, .b false, .b false, .b false, .b false, .b false, .b false, .b false, .b false, .b false, .b false, .b false, .b false, .b false, .b false, .b false, .b false, .b false, .b false, .b false, .b false, .b false, .b false, .b false, .b false, .b false, .b false, .b false, .b false, .b false, .b false, .b false, .b false, .b false, .b false, .b false, .b false, .b false, .b false, .b false, .b false, .b false, .b false, .b false, .b false, .b false, .b false, .b false, .b false, .b false, .b false, .b false, .b false, .b false, .b false, .b false, .b false, .b false, .b false, .b false, .b false, .b false, .b false, .b false, .b false, .b false, .b false, .b false, .b false, .b false, .b false, .b false, .b false, .b false, .b false, .b false, .b false, .b false, .b false, .b false, .b false, .b false, .b false, .b false, .b false, .b false, .b false, .b false, .b false, .b false, .b false, .b false, .b false, .b false, .b false, .b false, .b false, .b false, .b false, .b false, .b false, .b false, .b false, .b false, .b false, .b false, .b false, .b false, .b false, .b false], 0, 0, 0, false, false⟩)] = true := by kernel_rfl
def nuETl_0 (T : LB) : List Value := [St' T]
def roETl_0 (T : LB) : List Value := []
noncomputable def ETl_0 (T : LB) : Cx := cx (nuX (nuETl_0 T) (rX (roETl_0 T) (fun _ => .bool true))) (nuX_one (nuL_one (l := nuETl_0 T) rfl)) 0 laidE laidE_stab
theorem roundsTl_0 (T : LB) (st : Nat × LB) (X : Nat → Value) (hI : InvTl T st) : RHTl T (ETl_0 T) (.exit 0) [(0, .x 0)] [(5, .b ⟨100, .l [.b false, .b false, .b false, .b false, .b false, .b false, .b false, .b false, .b false, .b true, .b false, .b false, .b false, .b false, .b false, .b false, .b false, .b false, .b false, .b false, .b false, .b false, .b false, .b false, .b false, .b false, .b false, .b false, .b false, .b false, .b false, .b false, .b true, .b false, .b false, .b false, .b false, .b false, .b false, .b false, .b false, .b false, .b false, .b false, .b false, .b false, .b false, .b false, .b false, .b false, .b false, .b false, .b false, .b false, .b false, .b false, .b false, .b false, .b false, .b false, .b false, .b false, .b false, .b false, .b false, .b false, .b false, .b false, .b false, .b false, .b false, .b false, .b false, .b false, .b false, .b false, .b false, .b false, .b false, .b false, .b false, .b false, .b false, .b false, .b false, .b false, .b false, .b false, .b false, .b false, .b false, .b false, .b false, .b false, .b false, .b false, .b false, .b false, .b false, .b false, .b false, .b false, .b false, .b false, .b false, .b false, .b false, .b false, .b false, .b false, .b false, .b false, .b false, .b false, .b false, .b false, .b false, .b false, .b false, .b false, .b false, .b false, .b false, .b false, .b false, .b false, .b false, .b false, .b false, .b false, .b false, .b false, .b false, .b false, .b false, .b false, .b false, .b false, .b false, .b false, .b false, .b false, .b false, .b false, .b false, .b false, .b false, .b false, .b false, .b false, .b false, .b false, .b false, .b false, .b false, .b false, .b false, .b false, .b false, .b false, .b false, .b false, .b false, .b false, .b false, .b false, .b false, .b false, .b false, .b false, .b false, .b false, .b false, .b false, .b false, .b false, .b false, .b false, .b false, .b false, .b false, .b false, .b false, .b false, .b false, .b false, .b false, .b false, .b false, .b false, .b false, .b false, .b false, .b false, .b false, .b false, .b false, .b false, .b false, .b false, .b false, .b false, .b false, .b false, .b false, .b false, .b false, .b false, .b false, .b false, .b false, .b false, .b false, .b false, .b false, .b false, .b false, .b false, .b false, .b false, .b false, .b false, .b false, .b false, .b false, .b false, .b false, .b false, .b false, .b false, .b false, .b false, .b false, .b false, .b false, .b false, .b false, .b false, .b false, .b false, .b false, .b false, .b false, .b false, .b false, .b false, .b false, .b false, .b false, .b false, .b false, .b false, .b false, .b false, .b false, .b false], 0, 0, 0, false, false⟩)] st X := by
  obtain ⟨tag, t⟩ := st
  have hI0 := hI
  obtain ⟨i0, i1, it⟩ := unITl T tag t hI
  obtain rfl : tag = 0 := by omega
  skip
  by_cases h0 : 0 < (t.length : Int)
  · by_cases h1 : tb8 4294967808 (bt t 0) = true
    · exact nxTl_p1 T t X hI0 h0 h1
    · skip
      have := bt_lo t 0; have := bt_hi t 0
      refine lvTl_0 T t (h := hyTl_p2) rfl ?_ (thXe (v := St' t) (u := St' T) rfl rfl (congrArg (fun l => St' l) (by rw [← i0]; exact (trL_end (by omega) (by assumption)).symm)) (thNil)) runTl_p2
      unfold hyTl_p2
      exact hc (lnV rfl rfl (by omega)) <|
       hc (gtcT rfl (by omega)) <|
       hc (ixC rfl rfl (by omega)) <|
       hc (kTabB 4294967808 (by kernel_rfl) (isX rfl) (by omega) (by omega) (tbF (by assumption))) <|
       hnil
  · skip
    refine lvTl_0 T t (h := hyTl_p0) rfl ?_ (thXe (v := St' t) (u := St' T) rfl rfl (congrArg (fun l => St' l) (by rw [← i0]; exact (trL_nil (by omega)).symm)) (thNil)) runTl_p0
    unfold hyTl_p0
    exact hc (lnV rfl rfl (by omega)) <|
     hc (gtcF rfl (by omega)) <|
     hnil
theorem lfOkTl_0 {l : LF} {h : LH} (T : LB) (st : Nat × LB) (hI : InvTl T st) (hl : l.hp = some h) (hs : lfSame l h 16 keepTl (.exit 0) 4 6 6 = true) {th0 : LA} {sg0 : List (Nat × Nat)} (hth0 : ∀ X, ThOk (cx nu one 0 laidE laidE_stab) (DTl T st X) th0) (h0 : startOk l h 16 6 6 th0 sg0 (epTl st) (hpTl st) = true) {thx : LA} (hthx : ThOk (ETl_0 T) (cx nu one 0 laidE laidE_stab) thx) (hx : exitOk l h 16 6 6 thx [(0, .x 0)] [(5, .b ⟨100, .l [.b false, .b false, .b false, .b false, .b false, .b false, .b false, .b false, .b false, .b true, .b false, .b false, .b false, .b false, .b false, .b false, .b false, .b false, .b false, .b false, .b false, .b false, .b false, .b false, .b false, .b false, .b false, .b false, .b false, .b false, .b false, .b false, .b true, .b false, .b false, .b false, .b false, .b false, .b false, .b false, .b false, .b false, .b false, .b false, .b false, .b false, .b false, .b false, .b false, .b false, .b false, .b false, .b false, .b false, .b false, .b false, .b false, .b false, .b false, .b false, .b false, .b false, .b false, .b false, .b false, .b false, .b false, .b false, .b false, .b false, .b false, .b false, .b false, .b false, .b false, .b false, .b false, .b false, .b false, .b false, .b false, .b false, .b false, .b false, .b false, .b false, .b false, .b false, .b false, .b false, .b false, .b false, .b false, .b false, .b false, .b false, .b false, .b false, .b false, .b false, .b false, .b false, .b false, .b false, .b false, .b false, .b false, .b false, .b false, .b false, .b false, .b false, .b false, .b false, .b false, .b false, .b false, .b false, .b false, .b false, .b false, .b false, .b false, .b false, .b false, .b false, .b false, .b false, .b false, .b false, .b false, .b false, .b false, .b false, .b false, .b false, .b false, .b false, .b false, .b false, .b false, .b false, .b false, .b false, .b false, .b false, .b false, .b false, .b false, .b false, .b false, .b false, .b false, .b false, .b false, .b false, .b false, .b false, .b false, .b false, .b false, .b false, .b false, .b false, .b false, .b false, .b false, .b false, .b false, .b false, .b false, .b false, .b false, .b false, .b false, .b false, .b false, .b false, .b false, .b false, .b false, .b false, .b false, .b false, .b false, .b false, .b false, .b false, .b false, .b false, .b false, .b false, .b false, .b false, .b false, .b false, .b false, .b false, .b false, .b false, .b false, .b false, .b false, .b false, .b false, .b false, .b false, .b false, .b false, .b false, .b false, .b false, .b false, .b false, .b false, .b false, .b false, .b false, .b false, .b false, .b false, .b false, .b false, .b false, .b false, .b false, .b false, .b false, .b false, .b false, .b false, .b false, .b false, .b false, .b false, .b false, .b false, .b false, .b false, .b false, .b false, .b false, .b false, .b false, .b false, .b false, .b false, .b false, .b false, .b false, .b false, .b false, .b false, .b false, .b false, .b false], 0, 0, 0, false, false⟩)] = true) : LfOk (cx nu one 0 laidE laidE_stab) bodyTl l :=
  lfOkX (E := ETl_0 T) (InvTl T) (muTl T) (DTl T) (fun _ _ => rfl) (fun _ _ => rfl) (fun _ _ => rfl) (fun st X t ht => nuX_keep.trans (rX_keep ((by decide : ∀ t, t ∈ keepTl → t < 1000000) t ht))) rfl rfl rfl hl hs ebTl rfl rfl st hI hth0 h0 hthx hx (roundsTl_0 T)
noncomputable def fi59 : FI := (tabk.fn.get 59).getD default
theorem fi59_at : tabk.fn.get 59 = some fi59 := by kernel_rfl
theorem fi59_body : fi59.body = some (Tryd.f59.body.getD .skip) := by kernel_rfl
theorem fiB59 : fi59.body.isSome = true := by rw [fi59_body]; rfl
noncomputable def fi40 : FI := (tabk.fn.get 40).getD default
theorem fi40_at : tabk.fn.get 40 = some fi40 := by kernel_rfl
theorem fi40_body : fi40.body = some (Tryd.f40.body.getD .skip) := by kernel_rfl
theorem fiB40 : fi40.body.isSome = true := by rw [fi40_body]; rfl
noncomputable def fi58 : FI := (tabk.fn.get 58).getD default
theorem fi58_at : tabk.fn.get 58 = some fi58 := by kernel_rfl
theorem fi58_body : fi58.body = some (Tryd.f58.body.getD .skip) := by kernel_rfl
theorem fiB58 : fi58.body.isSome = true := by rw [fi58_body]; rfl
theorem fiNTrim : tabk.fn.get 40 = some (fI Tryd.f40 0) ∧ (fI Tryd.f40 0).body.isSome = true := ⟨rfl, by kernel_rfl⟩
def hyTrim_0 : LK := [(.bin .eql (.x 0) (.s 0 0), .b true)]
theorem runTrim_0 : okA (call (tbl hyTrim_0) 9000 40 [.x 0, .s 2 2336] ⟨H0 , 4, 0, 0⟩) (.x 0) = true := by kernel_rfl
def nuTrim_0 (s : LB) : List Value := [St' s]
theorem pathTrim_0 (s : LB) (b0 : s.length ≤ 9223372036854775807) (p0 : s.length ≤ 140737488355328) (h0 : (s.length : Int) = 0) (w : World) (hl : laidE w) : CwR 40 #[St' s, St' [u8 32, u8 9]] w (St' s) := by
  have ho : ∀ k r, (k, r) ∈ hyTrim_0 → HOk (cx (nuL (nuTrim_0 s)) (fun j _ => nuL_one (l := nuTrim_0 s) rfl j) 0 laidE laidE_stab) k r := by
    unfold hyTrim_0
    exact hc (kEqS (isX rfl) (isSx (l := ([] : LB)) 0 0 rfl) (nilT (by omega))) <|
     hnil
  refine runC (tb := (tbl hyTrim_0)) (ra := .x 0) rfl ((tabkOk (nuL (nuTrim_0 s)) (fun j _ => nuL_one (l := nuTrim_0 s) rfl j)).hyps ho) rfl fiNTrim.1 fiNTrim.2 (runTrim_0 ) (args := [St' s, St' [u8 32, u8 9]]) (by simp only [RelL, Rel]; exact ⟨_, _, rfl, rfl, ⟨_, _, rfl, ⟨rfl, by decide⟩, rfl⟩⟩) w hl fun x hx => ?_
  simp only [Rel, RelL] at hx
  exact hx
def hyTrim_1 : LK := [(.bin .eql (.x 0) (.s 0 0), .b false)]
def lh7 : LH := ⟨4, 6, 6, [(5, .b ⟨100, .l [.b false, .b false, .b false, .b false, .b false, .b false, .b false, .b false, .b false, .b true, .b false, .b false, .b false, .b false, .b false, .b false, .b false, .b false, .b false, .b false, .b false, .b false, .b false, .b false, .b false, .b false, .b false, .b false, .b false, .b false, .b false, .b false, .b true, .b false, .b false, .b false, .b false, .b false, .b false, .b false, .b false, .b false, .b false, .b false, .b false, .b false, .b false, .b false, .b false, .b false, .b false, .b false, .b false, .b false, .b false, .b false, .b false, .b false, .b false, .b false, .b false, .b false, .b false, .b false, .b false, .b false, .b false, .b false, .b false, .b false, .b false, .b false, .b false, .b false, .b false, .b false, .b false, .b false, .b false, .b false, .b false, .b false, .b false, .b false, .b false, .b false, .b false, .b false, .b false, .b false, .b false, .b false, .b false, .b false, .b false, .b false, .b false, .b false, .b false, .b false, .b false, .b false, .b false, .b false, .b false, .b false, .b false, .b false, .b false, .b false, .b false, .b false, .b false, .b false, .b false, .b false, .b false, .b false, .b false, .b false, .b false, .b false, .b false, .b false, .b false, .b false, .b false, .b false, .b false, .b false, .b false, .b false, .b false, .b false, .b false, .b false, .b false, .b false, .b false, .b false, .b false, .b false, .b false, .b false, .b false, .b false, .b false, .b false, .b false, .b false, .b false, .b false, .b false, .b false, .b false, .b false, .b false, .b false, .b false, .b false, .b false, .b false, .b false, .b false, .b false, .b false, .b false, .b false, .b false, .b false, .b false, .b false, .b false, .b false, .b false, .b false, .b false, .b false, .b false, .b false, .b false, .b false, .b false, .b false, .b false, .b false, .b false, .b false, .b false, .b false, .b false, .b false, .b false, .b false, .b false, .b false, .b false, .b false, .b false, .b false, .b false, .b false, .b false, .b false, .b false, .b false, .b false, .b false, .b false, .b false, .b false, .b false, .b false, .b false, .b false, .b false, .b false, .b false, .b false, .b false, .b false, .b false, .b false, .b false, .b false, .b false, .b false, .b false, .b false, .b false, .b false, .b false, .b false, .b false, .b false, .b false, .b false, .b false, .b false, .b false, .b false, .b false, .b false, .b false, .b false, .b false, .b false, .b false, .b false, .b false, .b false, .b false, .b false, .b false, .b false, .b false], 0, 0, 0, false, false⟩)], [(5, .b ⟨100, .l [.b false, .b false, .b false, .b false, .b false, .b false, .b false, .b false, .b false, .b true, .b false, .b false, .b false, .b false, .b false, .b false, .b false, .b false, .b false, .b false, .b false, .b false, .b false, .b false, .b false, .b false, .b false, .b false, .b false, .b false, .b false, .b false, .b true, .b false, .b false, .b false, .b false, .b false, .b false, .b false, .b false, .b false, .b false, .b false, .b false, .b false, .b false, .b false, .b false, .b false, .b false, .b false, .b false, .b false, .b false, .b false, .b false, .b false, .b false, .b false, .b false, .b false, .b false, .b false, .b false, .b false, .b false, .b false, .b false, .b false, .b false, .b false, .b false, .b false, .b false, .b false, .b false, .b false, .b false, .b false, .b false, .b false, .b false, .b false, .b false, .b false, .b false, .b false, .b false, .b false, .b false, .b false, .b false, .b false, .b false, .b false, .b false, .b false, .b false, .b false, .b false, .b false, .b false, .b false, .b false, .b false, .b false, .b false, .b false, .b false, .b false, .b false, .b false, .b false, .b false, .b false, .b false, .b false, .b false, .b false, .b false, .b false, .b false, .b false, .b false, .b false, .b false, .b false, .b false, .b false, .b false, .b false, .b false, .b false, .b false, .b false, .b false, .b false, .b false, .b false, .b false, .b false, .b false, .b false, .b false, .b false, .b false, .b false, .b false, .b false, .b false, .b false, .b false, .b false, .b false, .b false, .b false, .b false, .b false, .b false, .b false, .b false, .b false, .b false, .b false, .b false, .b false, .b false, .b false, .b false, .b false, .b false, .b false, .b false, .b false, .b false, .b false, .b false, .b false, .b false, .b false, .b false, .b false, .b false, .b false, .b false, .b false, .b false, .b false, .b false, .b false, .b false, .b false, .b false, .b false, .b false, .b false, .b false, .b false, .b false, .b false, .b false, .b false, .b false, .b false, .b false, .b false, .b false, .b false, .b false, .b false, .b false, .b false, .b false, .b false, .b false, .b false, .b false, .b false, .b false, .b false, .b false, .b false, .b false, .b false, .b false, .b false, .b false, .b false, .b false, .b false, .b false, .b false, .b false, .b false, .b false, .b false, .b false, .b false, .b false, .b false, .b false, .b false, .b false, .b false, .b false, .b false, .b false, .b false, .b false, .b false, .b false, .b false, .b false, .b false, .b false], 0, 0, 0, false, false⟩)]⟩
def lf7 : LF := ⟨1, 22, [(0, .x 0), (1, .p 5 0)], [], (.exit 0), [(0, .x 1)], some lh7⟩
def lh8 : LH := ⟨4, 6, 6, [(5, .b ⟨100, .l [.b false, .b false, .b false, .b false, .b false, .b false, .b false, .b false, .b false, .b true, .b false, .b false, .b false, .b false, .b false, .b false, .b false, .b false, .b false, .b false, .b false, .b false, .b false, .b false, .b false, .b false, .b false, .b false, .b false, .b false, .b false, .b false, .b true, .b false, .b false, .b false, .b false, .b false, .b false, .b false, .b false, .b false, .b false, .b false, .b false, .b false, .b false, .b false, .b false, .b false, .b false, .b false, .b false, .b false, .b false, .b false, .b false, .b false, .b false, .b false, .b false, .b false, .b false, .b false, .b false, .b false, .b false, .b false, .b false, .b false, .b false, .b false, .b false, .b false, .b false, .b false, .b false, .b false, .b false, .b false, .b false, .b false, .b false, .b false, .b false, .b false, .b false, .b false, .b false, .b false, .b false, .b false, .b false, .b false, .b false, .b false, .b false, .b false, .b false, .b false, .b false, .b false, .b false, .b false, .b false, .b false, .b false, .b false, .b false, .b false, .b false, .b false, .b false, .b false, .b false, .b false, .b false, .b false, .b false, .b false, .b false, .b false, .b false, .b false, .b false, .b false, .b false, .b false, .b false, .b false, .b false, .b false, .b false, .b false, .b false, .b false, .b false, .b false, .b false, .b false, .b false, .b false, .b false, .b false, .b false, .b false, .b false, .b false, .b false, .b false, .b false, .b false, .b false, .b false, .b false, .b false, .b false, .b false, .b false, .b false, .b false, .b false, .b false, .b false, .b false, .b false, .b false, .b false, .b false, .b false, .b false, .b false, .b false, .b false, .b false, .b false, .b false, .b false, .b false, .b false, .b false, .b false, .b false, .b false, .b false, .b false, .b false, .b false, .b false, .b false, .b false, .b false, .b false, .b false, .b false, .b false, .b false, .b false, .b false, .b false, .b false, .b false, .b false, .b false, .b false, .b false, .b false, .b false, .b false, .b false, .b false, .b false, .b false, .b false, .b false, .b false, .b false, .b false, .b false, .b false, .b false, .b false, .b false, .b false, .b false, .b false, .b false, .b false, .b false, .b false, .b false, .b false, .b false, .b false, .b false, .b false, .b false, .b false, .b false, .b false, .b false, .b false, .b false, .b false, .b false, .b false, .b false, .b false, .b false, .b false, .b false, .b false, .b false, .b false, .b false, .b false], 0, 0, 0, false, false⟩)], [(5, .b ⟨100, .l [.b false, .b false, .b false, .b false, .b false, .b false, .b false, .b false, .b false, .b true, .b false, .b false, .b false, .b false, .b false, .b false, .b false, .b false, .b false, .b false, .b false, .b false, .b false, .b false, .b false, .b false, .b false, .b false, .b false, .b false, .b false, .b false, .b true, .b false, .b false, .b false, .b false, .b false, .b false, .b false, .b false, .b false, .b false, .b false, .b false, .b false, .b false, .b false, .b false, .b false, .b false, .b false, .b false, .b false, .b false, .b false, .b false, .b false, .b false, .b false, .b false, .b false, .b false, .b false, .b false, .b false, .b false, .b false, .b false, .b false, .b false, .b false, .b false, .b false, .b false, .b false, .b false, .b false, .b false, .b false, .b false, .b false, .b false, .b false, .b false, .b false, .b false, .b false, .b false, .b false, .b false, .b false, .b false, .b false, .b false, .b false, .b false, .b false, .b false, .b false, .b false, .b false, .b false, .b false, .b false, .b false, .b false, .b false, .b false, .b false, .b false, .b false, .b false, .b false, .b false, .b false, .b false, .b false, .b false, .b false, .b false, .b false, .b false, .b false, .b false, .b false, .b false, .b false, .b false, .b false, .b false, .b false, .b false, .b false, .b false, .b false, .b false, .b false, .b false, .b false, .b false, .b false, .b false, .b false, .b false, .b false, .b false, .b false, .b false, .b false, .b false, .b false, .b false, .b false, .b false, .b false, .b false, .b false, .b false, .b false, .b false, .b false, .b false, .b false, .b false, .b false, .b false, .b false, .b false, .b false, .b false, .b false, .b false, .b false, .b false, .b false, .b false, .b false, .b false, .b false, .b false, .b false, .b false, .b false, .b false, .b false, .b false, .b false, .b false, .b false, .b false, .b false, .b false, .b false, .b false, .b false, .b false, .b false, .b false, .b false, .b false, .b false, .b false, .b false, .b false, .b false, .b false, .b false, .b false, .b false, .b false, .b false, .b false, .b false, .b false, .b false, .b false, .b false, .b false, .b false, .b false, .b false, .b false, .b false, .b false, .b false, .b false, .b false, .b false, .b false, .b false, .b false, .b false, .b false, .b false, .b false, .b false, .b false, .b false, .b false, .b false, .b false, .b false, .b false, .b false, .b false, .b false, .b false, .b false, .b false, .b false, .b false, .b false, .b false, .b false, .b false], 0, 0, 0, false, false⟩)]⟩
def lf8 : LF := ⟨1, 16, [(0, .x 1), (1, .p 5 0)], [], (.exit 0), [(0, .x 2)], some lh8⟩
noncomputable def tabTrim_1 : Tab := addLps (addLps ({ tabk with hyp := hyTrim_1 }) 59 fi59 [lf7]) 58 fi58 [lf8]
theorem runTrim_1 : okA (call tabTrim_1 9000 40 [.x 0, .s 2 2336] ⟨H0 , 4, 0, 0⟩) (.x 2) = true := by kernel_rfl
def nuTrim_1 (s : LB) : List Value := [St' s, St' (trR s), St' (trL (trR s))]
theorem pathTrim_1 (s : LB) (b0 : s.length ≤ 9223372036854775807) (p0 : s.length ≤ 140737488355328) (h0 : ¬ ((s.length : Int) = 0)) (w : World) (hl : laidE w) : CwR 40 #[St' s, St' [u8 32, u8 9]] w (St' (trL (trR s))) := by
  have := trR_len s
  have := trL_len (trR s)
  have ho : ∀ k r, (k, r) ∈ hyTrim_1 → HOk (cx (nuL (nuTrim_1 s)) (fun j _ => nuL_one (l := nuTrim_1 s) rfl j) 0 laidE laidE_stab) k r := by
    unfold hyTrim_1
    exact hc (kEqS (isX rfl) (isSx (l := ([] : LB)) 0 0 rfl) (nilF (by omega))) <|
     hnil
  refine runC (tb := tabTrim_1) (ra := .x 2) rfl (AllOk.lp1 (AllOk.lp1 ((tabkOk (nuL (nuTrim_1 s)) (fun j _ => nuL_one (l := nuTrim_1 s) rfl j)).hyps ho) (by omega) fi59_at fi59_body (lfCons (lpKnown rfl ⟨0, keyTr, lfOkTr_0 (l := lf7) (h := lh7) (trR s) (0, s) (mkITr (trR s) 0 s ⟨rfl, by first | omega | (simp <;> omega)⟩) rfl (by kernel_rfl) (th0 := [(0, .x 0)]) (sg0 := []) (fun X => thXv (v := St' s) rfl rfl (thNil)) (by kernel_rfl) (thx := [(1, .x 0)]) (thXv (v := St' (trR s)) rfl rfl (thNil)) (by kernel_rfl)⟩) lfNil)) (by omega) (get_lps2 (by omega) (by omega) fi58_at) fi58_body (lfCons (lpKnown rfl ⟨0, keyTl, lfOkTl_0 (l := lf8) (h := lh8) (trL (trR s)) (0, (trR s)) (mkITl (trL (trR s)) 0 (trR s) ⟨rfl, by first | omega | (simp <;> omega)⟩) rfl (by kernel_rfl) (th0 := [(0, .x 1)]) (sg0 := []) (fun X => thXv (v := St' (trR s)) rfl rfl (thNil)) (by kernel_rfl) (thx := [(2, .x 0)]) (thXv (v := St' (trL (trR s))) rfl rfl (thNil)) (by kernel_rfl)⟩) lfNil)) rfl (get_lps2 (by omega) (by omega) (get_lps2 (by omega) (by omega) fi40_at)) fiB40 (runTrim_1 ) (args := [St' s, St' [u8 32, u8 9]]) (by simp only [RelL, Rel]; exact ⟨_, _, rfl, rfl, ⟨_, _, rfl, ⟨rfl, by decide⟩, rfl⟩⟩) w hl fun x hx => ?_
  simp only [Rel, RelL] at hx
  exact hx
theorem callsTrim (s : LB) (b0 : s.length ≤ 9223372036854775807) (p0 : s.length ≤ 140737488355328) (w : World) (hl : laidE w) : CwR 40 #[St' s, St' [u8 32, u8 9]] w (St' (trS s)) := by
  by_cases h0 : (s.length : Int) = 0
  · rw [show (St' (trS s) : Value) = (St' s : Value) from by first | rfl | (have e : s = [] := List.eq_nil_of_length_eq_zero (by omega); subst e; rfl)]
    exact pathTrim_0 s b0 p0 h0 w hl
  · rw [show (St' (trS s) : Value) = (St' (trL (trR s)) : Value) from by first | rfl | (have e : s = [] := List.eq_nil_of_length_eq_zero (by omega); subst e; rfl)]
    exact pathTrim_1 s b0 p0 h0 w hl
theorem hokTrim {x0 x1 r : AV} {s : LB} (i0 : Is (cx nu one 0 laidE laidE_stab) x0 (St' s)) (i1 : Is (cx nu one 0 laidE laidE_stab) x1 (St' [u8 32, u8 9])) (hr : Den (cx nu one 0 laidE laidE_stab) r (St' (trS s))) (b0 : s.length ≤ 9223372036854775807) (p0 : s.length ≤ 140737488355328) : HOk (cx nu one 0 laidE laidE_stab) (.call 40 [x0, x1]) r := by
  intro ρ args ha w hl _
  simp only [RelL] at ha
  obtain ⟨v0, t0, rfl, a0, v1, t1, rfl, a1, rfl⟩ := ha
  have e0 := i0 ρ _ a0; subst e0
  have e1 := i1 ρ _ a1; subst e1
  exact (callsTrim s b0 p0 w hl).mono fun e w' he => ⟨_, he.1, hr ρ, he.2⟩
def trQ (l : LB) : LB := trR (trL l)
theorem bl_yes {c : Int} (h : c = 32 ∨ c = 9) : tb8 4294967808 c = true := by rcases h with rfl | rfl <;> decide
theorem bl_no {c : Int} (h0 : 0 ≤ c) (h1 : c ≤ 255) (a : ¬ c = 32) (b : ¬ c = 9) : ¬ (tb8 4294967808 c = true) := by
  obtain ⟨n, rfl⟩ := Int.eq_ofNat_of_zero_le h0
  have h : ∀ n : Nat, n < 256 → n ≠ 32 → n ≠ 9 → ¬ (tb8 4294967808 (n : Int) = true) := by decide
  exact h n (by omega) (by omega) (by omega)
theorem dw_app {p : UInt8 → Bool} : ∀ (l r : LB), (l ++ r).dropWhile p = if l.all p then r.dropWhile p else l.dropWhile p ++ r
  | [], r => by simp
  | a :: l, r => by
    rw [List.cons_append, List.dropWhile_cons, List.dropWhile_cons, List.all_cons]
    cases h : p a with
    | true => simp only [if_true, Bool.true_and]; exact dw_app l r
    | false => simp
theorem dw_all {p : UInt8 → Bool} : ∀ l : LB, l.all p = true → l.dropWhile p = []
  | [], _ => rfl
  | a :: l, h => by
    rw [List.all_cons, Bool.and_eq_true] at h
    rw [List.dropWhile_cons, h.1, if_pos rfl]; exact dw_all l h.2
theorem trR_cons {a : UInt8} {l : LB} (h : bl a = false) : trR (a :: l) = a :: trR l := by
  unfold trR
  rw [List.reverse_cons, dw_app]
  split
  · rename_i h2
    rw [dw_all l.reverse h2]
    simp [h]
  · simp
theorem trR_blank {a : UInt8} {l : LB} (h : bl a = true) : trL (trR (a :: l)) = trL (trR l) := by
  unfold trR
  rw [List.reverse_cons, dw_app]
  split
  · rename_i h2
    rw [dw_all l.reverse h2]
    simp [h]
  · rw [List.reverse_append, List.reverse_singleton, List.singleton_append]
    unfold trL; rw [List.dropWhile_cons, h, if_pos rfl]
theorem trSQ : ∀ l : LB, trS l = trQ l
  | [] => rfl
  | a :: l => by
    unfold trS trQ
    cases h : bl a with
    | true =>
      rw [trR_blank h]
      have e : trL (a :: l) = trL l := by unfold trL; rw [List.dropWhile_cons, h, if_pos rfl]
      rw [e]; exact trSQ l
    | false =>
      have e : trL (a :: l) = a :: l := by unfold trL; rw [List.dropWhile_cons, h]; rfl
      rw [e, trR_cons h]
      unfold trL; rw [List.dropWhile_cons, h]; rfl
end Go.Proofs.YtjkdkpdjmapieaaDoor.fieldBack
