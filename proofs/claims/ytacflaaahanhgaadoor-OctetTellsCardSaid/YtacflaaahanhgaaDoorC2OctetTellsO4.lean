/- A part of the proof: an interpreter of the model's own code on partly known states, and that what it answers is what the program answers. No condition of its own. -/
import Derived.Test.YtacflaaahanhgaaDoorC2OctetTellsO3
set_option maxRecDepth 100000
set_option linter.unusedVariables false
set_option linter.unusedSimpArgs false
set_option maxHeartbeats 4000000
namespace Go.Proofs.YtacflaaahanhgaaDoor.octetTells
open Go Go.AX Go.Proofs Go.Proofs.YtacflaaahanhgaaDoor
variable {nu : Nat → Value} {one : ∀ i, i < 1000000 → (nu i).oneCell' = true} {E' : Cx} {x' : Ex} {e' : LA} {h' : LE}
def bl (b : UInt8) : Bool := tb8 4294967808 (b.toNat : Int)
def trR (l : LB) : LB := (l.reverse.dropWhile bl).reverse
def trL (l : LB) : LB := l.dropWhile bl
def trS (l : LB) : LB := trL (trR l)
theorem bt_last {l : LB} {i : Nat} (h : i + 1 = l.length) : ∃ p, l = p ++ [u8 (bt l i)] ∧ p = l.take i := by
  refine ⟨l.take i, ?_, rfl⟩
  rw [u8_bt, List.getD_eq_getElem?_getD, List.getElem?_eq_getElem (by omega), Option.getD_some]
  have := List.take_append_getElem (l := l) (i := i) (by omega)
  rw [this, h, List.take_length]
theorem bl_u8 {c : Int} (h0 : 0 ≤ c) (h1 : c ≤ 255) : bl (u8 c) = tb8 4294967808 c := by unfold bl; rw [u8_toNat h0 h1]
theorem trR_step {l : LB} {i : Nat} (h : i + 1 = l.length) (hb : tb8 4294967808 (bt l i) = true) : trR (l.take i) = trR l := by
  obtain ⟨p, e, hp⟩ := bt_last h
  rw [← hp]
  conv => rhs; rw [e]
  unfold trR
  rw [List.reverse_append, List.reverse_singleton, List.singleton_append, List.dropWhile_cons, bl_u8 (bt_lo _ _) (bt_hi _ _), hb]; rfl
theorem trR_end {l : LB} {i : Nat} (h : i + 1 = l.length) (hb : ¬ (tb8 4294967808 (bt l i) = true)) : trR l = l := by
  obtain ⟨p, e, hp⟩ := bt_last h
  have hb : tb8 4294967808 (bt l i) = false := by simpa using hb
  have : (l.reverse.dropWhile bl) = l.reverse := by
    conv => lhs; rw [e]
    conv => rhs; rw [e]
    rw [List.reverse_append, List.reverse_singleton, List.singleton_append, List.dropWhile_cons, bl_u8 (bt_lo _ _) (bt_hi _ _), hb]; rfl
  unfold trR; rw [this, List.reverse_reverse]
theorem trR_nil {l : LB} (h : l.length = 0) : trR l = l := by rw [List.eq_nil_of_length_eq_zero h]; rfl
theorem cons_bt {l : LB} (h : 0 < l.length) : l = u8 (bt l 0) :: l.drop 1 := by
  cases l with
  | nil => simp at h
  | cons a r => rw [u8_bt]; rfl
theorem trL_step {l : LB} (h : 0 < l.length) (hb : tb8 4294967808 (bt l 0) = true) : trL (l.drop 1) = trL l := by
  conv => rhs; rw [cons_bt h]
  unfold trL
  rw [List.dropWhile_cons, bl_u8 (bt_lo _ _) (bt_hi _ _), hb]; rfl
theorem trL_end {l : LB} (h : 0 < l.length) (hb : ¬ (tb8 4294967808 (bt l 0) = true)) : trL l = l := by
  have hb : tb8 4294967808 (bt l 0) = false := by simpa using hb
  conv => lhs; rw [cons_bt h]
  unfold trL
  rw [List.dropWhile_cons, bl_u8 (bt_lo _ _) (bt_hi _ _), hb]
  exact (cons_bt h).symm
theorem trL_nil {l : LB} (h : l.length = 0) : trL l = l := by rw [List.eq_nil_of_length_eq_zero h]; rfl
theorem trR_len (l : LB) : (trR l).length ≤ l.length := by
  have := (List.dropWhile_sublist (p := bl) (l := l.reverse)).length_le
  unfold trR; simpa using this
theorem trL_len (l : LB) : (trL l).length ≤ l.length := (List.dropWhile_sublist (p := bl) (l := l)).length_le
noncomputable def bodyTr : Code := loopNo (Tryd.f97.body.getD .skip) 0
theorem keyTr : oneKey (loopsOf (Tryd.f97.body.getD .skip)) 1 0 0 = true := by kernel_rfl
def keepTr : List Nat := []
def epTr_0 : LA := [(0, .x 0), (1, .p 8 0)]
def hpTr_0 : LE := [(8, .b ⟨135, .l ascL, 0, 0, 0, false, false⟩)]
def nuTr_0 (T t : LB) : List Value := [St' t, .int .i64 ((t.length : Int)), .int .i64 ((t.length : Int)), .int .i64 ((t.length : Int) - 1), .int .u8 (bt t (Int.toNat ((t.length : Int) - 1))), St' (List.take (Int.toNat ((t.length : Int) - 1)) t), .int .i64 ((t.length : Int)), .int .i64 ((t.length : Int) - 1), .int .u8 (bt t (Int.toNat ((t.length : Int) - 1)))]
def roTr_0 (T t : LB) : List Value := []
def epTr (st : Nat × LB) : LA := epTr_0
def hpTr (st : Nat × LB) : LE := hpTr_0
def nuTr (T : LB) (st : Nat × LB) : List Value := nuTr_0 T (st.2)
def roTr (T : LB) (st : Nat × LB) : List Value := roTr_0 T (st.2)
theorem onTr (T : LB) (st : Nat × LB) : ∀ j, (nuL (nuTr T st) j).oneCell' = true := by
  intro j
  unfold nuTr
  exact nuL_one (l := nuTr_0 T (st.2)) rfl j
theorem ebTr (st : Nat × LB) : (lfB (epTr st) && lfC keepTr) = true := by
  unfold epTr
  rfl
noncomputable def DTr (T : LB) (st : Nat × LB) (X : Nat → Value) : Cx := cx (nuX (nuTr T st) (rX (roTr T st) X)) (nuX_one (onTr T st)) 1 laidE laidE_stab
def InvTr (T : LB) (st : Nat × LB) : Prop := (trR (st.2) = T) ∧ ((st.2).length ≤ 140737488355328) ∧ ((st.1) < 1)
abbrev CjTr (T : LB) (tag : Nat) (t : LB) : Prop := (trR t = T) ∧ (t.length ≤ 140737488355328) ∧ (tag < 1)
theorem mkITr (T : LB) (tag : Nat) (t : LB) (h : CjTr T tag t) : InvTr T (tag, t) := h
theorem unITr (T : LB) (tag : Nat) (t : LB) (h : InvTr T (tag, t)) : (trR t = T) ∧ (t.length ≤ 140737488355328) ∧ (tag < 1) := h
def muTr (T : LB) (st : Nat × LB) : Nat := (st.2).length
abbrev RHTr (T : LB) (E' : Cx) (ex' : Ex) (epx' : LA) (hpx' : LE) (st : Nat × LB) (X : Nat → Value) : Prop := RoundH E' bodyTr keepTr 22 ex' 7 9 9 9 epTr hpTr epx' hpx' (InvTr T) (muTr T) (DTr T) st X
noncomputable abbrev RNTr_0 (h : LK) (x : Ex) (th : LA) (sg : List (Nat × Nat)) (m : Nat) (ep : LA) (hp : LE) : Bool := okRdH (code (tbl h) 400 [] bodyTr (envOf (headOf epTr_0 keepTr) 22) ⟨lhSet hpTr_0 .leaf, 9, 0, 0⟩) x keepTr 22 9 th sg 9 m ep hp
theorem stTr_0 (T t : LB) {X : Nat → Value} {h : LK} (y : Nat × LB) {th : LA} {sg : List (Nat × Nat)} (ho : ∀ a' r', (a', r') ∈ h → HOk (cx (nuX (nuTr_0 T t) (rX (roTr_0 T t) X)) (nuX_one (nuL_one (l := nuTr_0 T t) rfl)) 1 laidE laidE_stab) a' r') (hy : InvTr T y) (lt : muTr T y < muTr T (0, t)) (ht : ThOk (cx (nuX (nuTr_0 T t) (rX (roTr_0 T t) X)) (nuX_one (nuL_one (l := nuTr_0 T t) rfl)) 1 laidE laidE_stab) (DTr T y X) th) (run : RNTr_0 h .normal th sg 9 (epTr y) (hpTr y) = true) : RHTr T E' x' e' h' (0, t) X :=
  RoundH.next (tb := tbl h) (L := []) (f := 400) y ((tabkOk _ _).hyps ho) (LpOk.nil _) rfl hy lt ht run
theorem lvTr_0 (T t : LB) {X : Nat → Value} {h : LK} {th : LA} {sg : List (Nat × Nat)} (hne : exB x' .normal = false) (ho : ∀ a' r', (a', r') ∈ h → HOk (cx (nuX (nuTr_0 T t) (rX (roTr_0 T t) X)) (nuX_one (nuL_one (l := nuTr_0 T t) rfl)) 1 laidE laidE_stab) a' r') (ht : ThOk (cx (nuX (nuTr_0 T t) (rX (roTr_0 T t) X)) (nuX_one (nuL_one (l := nuTr_0 T t) rfl)) 1 laidE laidE_stab) E' th) (run : RNTr_0 h x' th sg 9 e' h' = true) : RHTr T E' x' e' h' (0, t) X :=
  RoundH.leave (tb := tbl h) (L := []) (f := 400) ((tabkOk _ _).hyps ho) (LpOk.nil _) rfl hne ht run
def hyTr_p0 : LK := [(.len (.x 0), .x 1), (.bin .gtr (.x 1) (.i .i64 (.ofNat 0)), .b false)]
theorem runTr_p0 : RNTr_0 hyTr_p0 (.exit 0) [(0, .x 0)] [] 9 [(0, .x 0)] [(8, .b ⟨135, .l ascL, 0, 0, 0, false, false⟩)] = true := by kernel_rfl
def hyTr_p1 : LK := [(.len (.x 0), .x 2), (.bin .gtr (.x 2) (.i .i64 (.ofNat 0)), .b true), (.bin .sub (.x 2) (.i .i64 (.ofNat 1)), .x 3), (.idx (.x 0) (.x 3), .x 4), (.tab ascL (.x 4), .b true), (.sub (.x 0) none (some (.x 3)), .x 5)]
theorem runTr_p1 : RNTr_0 hyTr_p1 .normal [(0, .x 5)] [] 9 epTr_0 hpTr_0 = true := by kernel_rfl
theorem nxTr_p1 (T : LB) (t : LB) (X : Nat → Value) (hI : InvTr T (0, t)) (h0 : 0 < (t.length : Int)) (h1 : tb8 4294967808 (bt t (Int.toNat ((t.length : Int) - 1))) = true) : RHTr T E' x' e' h' (0, t) X := by
  obtain ⟨i0, i1, it⟩ := unITr T 0 t hI
  have := bt_lo t (Int.toNat ((t.length : Int) - 1)); have := bt_hi t (Int.toNat ((t.length : Int) - 1))
  have := lenTake (l := t) (Q := (t.length : Int) - 1) (by omega) (by omega)
  refine stTr_0 T t (h := hyTr_p1) (0, (List.take (Int.toNat ((t.length : Int) - 1)) t)) ?_ (mkITr T 0 (List.take (Int.toNat ((t.length : Int) - 1)) t) ⟨by rw [← i0]; exact trR_step (i := (Int.toNat ((t.length : Int) - 1))) (by omega) (by assumption), by rw [List.length_take]; omega⟩) (by show (List.take (Int.toNat ((t.length : Int) - 1)) t).length < t.length; rw [List.length_take]; omega) (thXv (v := St' (List.take (Int.toNat ((t.length : Int) - 1)) t)) rfl rfl (thNil)) runTr_p1
  unfold hyTr_p1
  exact hc (lnV rfl rfl (by omega)) <|
   hc (gtcT rfl (by omega)) <|
   hc (sbC rfl rfl (by omega)) <|
   hc (ixV rfl rfl rfl (by omega)) <|
   hc (kTabB 4294967808 (by kernel_rfl) (isX rfl) (by omega) (by omega) ((by assumption))) <|
   hc (tkV rfl rfl rfl (by omega)) <|
   hnil
def hyTr_p2 : LK := [(.len (.x 0), .x 6), (.bin .gtr (.x 6) (.i .i64 (.ofNat 0)), .b true), (.bin .sub (.x 6) (.i .i64 (.ofNat 1)), .x 7), (.idx (.x 0) (.x 7), .x 8), (.tab ascL (.x 8), .b false)]
theorem runTr_p2 : RNTr_0 hyTr_p2 (.exit 0) [(0, .x 0)] [] 9 [(0, .x 0)] [(8, .b ⟨135, .l ascL, 0, 0, 0, false, false⟩)] = true := by kernel_rfl
def nuETr_0 (T : LB) : List Value := [St' T]
def roETr_0 (T : LB) : List Value := []
noncomputable def ETr_0 (T : LB) : Cx := cx (nuX (nuETr_0 T) (rX (roETr_0 T) (fun _ => .bool true))) (nuX_one (nuL_one (l := nuETr_0 T) rfl)) 1 laidE laidE_stab
theorem roundsTr_0 (T : LB) (st : Nat × LB) (X : Nat → Value) (hI : InvTr T st) : RHTr T (ETr_0 T) (.exit 0) [(0, .x 0)] [(8, .b ⟨135, .l ascL, 0, 0, 0, false, false⟩)] st X := by
  obtain ⟨tag, t⟩ := st
  have hI0 := hI
  obtain ⟨i0, i1, it⟩ := unITr T tag t hI
  obtain rfl : tag = 0 := by omega
  skip
  by_cases h0 : 0 < (t.length : Int)
  · by_cases h1 : tb8 4294967808 (bt t (Int.toNat ((t.length : Int) - 1))) = true
    · exact nxTr_p1 T t X hI0 h0 h1
    · skip
      have := bt_lo t (Int.toNat ((t.length : Int) - 1)); have := bt_hi t (Int.toNat ((t.length : Int) - 1))
      refine lvTr_0 T t (h := hyTr_p2) rfl ?_ (thXe (v := St' t) (u := St' T) rfl rfl (congrArg (fun l => St' l) (by rw [← i0]; exact (trR_end (i := (Int.toNat ((t.length : Int) - 1))) (by omega) (by assumption)).symm)) (thNil)) runTr_p2
      unfold hyTr_p2
      exact hc (lnV rfl rfl (by omega)) <|
       hc (gtcT rfl (by omega)) <|
       hc (sbC rfl rfl (by omega)) <|
       hc (ixV rfl rfl rfl (by omega)) <|
       hc (kTabB 4294967808 (by kernel_rfl) (isX rfl) (by omega) (by omega) (tbF (by assumption))) <|
       hnil
  · skip
    refine lvTr_0 T t (h := hyTr_p0) rfl ?_ (thXe (v := St' t) (u := St' T) rfl rfl (congrArg (fun l => St' l) (by rw [← i0]; exact (trR_nil (by omega)).symm)) (thNil)) runTr_p0
    unfold hyTr_p0
    exact hc (lnV rfl rfl (by omega)) <|
     hc (gtcF rfl (by omega)) <|
     hnil
theorem lfOkTr_0 {l : LF} {h : LH} (T : LB) (st : Nat × LB) (hI : InvTr T st) (hl : l.hp = some h) (hs : lfSame l h 22 keepTr (.exit 0) 7 9 9 = true) {th0 : LA} {sg0 : List (Nat × Nat)} (hth0 : ∀ X, ThOk (cx nu one 1 laidE laidE_stab) (DTr T st X) th0) (h0 : startOk l h 22 9 9 th0 sg0 (epTr st) (hpTr st) = true) {thx : LA} (hthx : ThOk (ETr_0 T) (cx nu one 1 laidE laidE_stab) thx) (hx : exitOk l h 22 9 9 thx [(0, .x 0)] [(8, .b ⟨135, .l ascL, 0, 0, 0, false, false⟩)] = true) : LfOk (cx nu one 1 laidE laidE_stab) bodyTr l :=
  lfOkX (E := ETr_0 T) (InvTr T) (muTr T) (DTr T) (fun _ _ => rfl) (fun _ _ => rfl) (fun _ _ => rfl) (fun st X t ht => nuX_keep.trans (rX_keep ((by decide : ∀ t, t ∈ keepTr → t < 1000000) t ht))) rfl rfl rfl hl hs ebTr rfl rfl st hI hth0 h0 hthx hx (roundsTr_0 T)
noncomputable def bodyTl : Code := loopNo (Tryd.f96.body.getD .skip) 0
theorem keyTl : oneKey (loopsOf (Tryd.f96.body.getD .skip)) 1 0 0 = true := by kernel_rfl
def keepTl : List Nat := []
def epTl_0 : LA := [(0, .x 0), (1, .p 8 0)]
def hpTl_0 : LE := [(8, .b ⟨135, .l ascL, 0, 0, 0, false, false⟩)]
def nuTl_0 (T t : LB) : List Value := [St' t, .int .i64 ((t.length : Int)), .int .i64 ((t.length : Int)), .int .u8 (bt t 0), St' (List.drop (Int.toNat (1)) t), .int .i64 ((t.length : Int)), .int .u8 (bt t 0)]
def roTl_0 (T t : LB) : List Value := []
def epTl (st : Nat × LB) : LA := epTl_0
def hpTl (st : Nat × LB) : LE := hpTl_0
def nuTl (T : LB) (st : Nat × LB) : List Value := nuTl_0 T (st.2)
def roTl (T : LB) (st : Nat × LB) : List Value := roTl_0 T (st.2)
theorem onTl (T : LB) (st : Nat × LB) : ∀ j, (nuL (nuTl T st) j).oneCell' = true := by
  intro j
  unfold nuTl
  exact nuL_one (l := nuTl_0 T (st.2)) rfl j
theorem ebTl (st : Nat × LB) : (lfB (epTl st) && lfC keepTl) = true := by
  unfold epTl
  rfl
noncomputable def DTl (T : LB) (st : Nat × LB) (X : Nat → Value) : Cx := cx (nuX (nuTl T st) (rX (roTl T st) X)) (nuX_one (onTl T st)) 1 laidE laidE_stab
def InvTl (T : LB) (st : Nat × LB) : Prop := (trL (st.2) = T) ∧ ((st.2).length ≤ 140737488355328) ∧ ((st.1) < 1)
abbrev CjTl (T : LB) (tag : Nat) (t : LB) : Prop := (trL t = T) ∧ (t.length ≤ 140737488355328) ∧ (tag < 1)
theorem mkITl (T : LB) (tag : Nat) (t : LB) (h : CjTl T tag t) : InvTl T (tag, t) := h
theorem unITl (T : LB) (tag : Nat) (t : LB) (h : InvTl T (tag, t)) : (trL t = T) ∧ (t.length ≤ 140737488355328) ∧ (tag < 1) := h
def muTl (T : LB) (st : Nat × LB) : Nat := (st.2).length
abbrev RHTl (T : LB) (E' : Cx) (ex' : Ex) (epx' : LA) (hpx' : LE) (st : Nat × LB) (X : Nat → Value) : Prop := RoundH E' bodyTl keepTl 16 ex' 7 9 9 9 epTl hpTl epx' hpx' (InvTl T) (muTl T) (DTl T) st X
noncomputable abbrev RNTl_0 (h : LK) (x : Ex) (th : LA) (sg : List (Nat × Nat)) (m : Nat) (ep : LA) (hp : LE) : Bool := okRdH (code (tbl h) 400 [] bodyTl (envOf (headOf epTl_0 keepTl) 16) ⟨lhSet hpTl_0 .leaf, 9, 0, 0⟩) x keepTl 16 9 th sg 9 m ep hp
theorem stTl_0 (T t : LB) {X : Nat → Value} {h : LK} (y : Nat × LB) {th : LA} {sg : List (Nat × Nat)} (ho : ∀ a' r', (a', r') ∈ h → HOk (cx (nuX (nuTl_0 T t) (rX (roTl_0 T t) X)) (nuX_one (nuL_one (l := nuTl_0 T t) rfl)) 1 laidE laidE_stab) a' r') (hy : InvTl T y) (lt : muTl T y < muTl T (0, t)) (ht : ThOk (cx (nuX (nuTl_0 T t) (rX (roTl_0 T t) X)) (nuX_one (nuL_one (l := nuTl_0 T t) rfl)) 1 laidE laidE_stab) (DTl T y X) th) (run : RNTl_0 h .normal th sg 9 (epTl y) (hpTl y) = true) : RHTl T E' x' e' h' (0, t) X :=
  RoundH.next (tb := tbl h) (L := []) (f := 400) y ((tabkOk _ _).hyps ho) (LpOk.nil _) rfl hy lt ht run
theorem lvTl_0 (T t : LB) {X : Nat → Value} {h : LK} {th : LA} {sg : List (Nat × Nat)} (hne : exB x' .normal = false) (ho : ∀ a' r', (a', r') ∈ h → HOk (cx (nuX (nuTl_0 T t) (rX (roTl_0 T t) X)) (nuX_one (nuL_one (l := nuTl_0 T t) rfl)) 1 laidE laidE_stab) a' r') (ht : ThOk (cx (nuX (nuTl_0 T t) (rX (roTl_0 T t) X)) (nuX_one (nuL_one (l := nuTl_0 T t) rfl)) 1 laidE laidE_stab) E' th) (run : RNTl_0 h x' th sg 9 e' h' = true) : RHTl T E' x' e' h' (0, t) X :=
  RoundH.leave (tb := tbl h) (L := []) (f := 400) ((tabkOk _ _).hyps ho) (LpOk.nil _) rfl hne ht run
def hyTl_p0 : LK := [(.len (.x 0), .x 1), (.bin .gtr (.x 1) (.i .i64 (.ofNat 0)), .b false)]
theorem runTl_p0 : RNTl_0 hyTl_p0 (.exit 0) [(0, .x 0)] [] 9 [(0, .x 0)] [(8, .b ⟨135, .l ascL, 0, 0, 0, false, false⟩)] = true := by kernel_rfl
def hyTl_p1 : LK := [(.len (.x 0), .x 2), (.bin .gtr (.x 2) (.i .i64 (.ofNat 0)), .b true), (.idx (.x 0) (.i .i64 (.ofNat 0)), .x 3), (.tab ascL (.x 3), .b true), (.sub (.x 0) (some (.i .i64 (.ofNat 1))) none, .x 4)]
theorem runTl_p1 : RNTl_0 hyTl_p1 .normal [(0, .x 4)] [] 9 epTl_0 hpTl_0 = true := by kernel_rfl
theorem nxTl_p1 (T : LB) (t : LB) (X : Nat → Value) (hI : InvTl T (0, t)) (h0 : 0 < (t.length : Int)) (h1 : tb8 4294967808 (bt t 0) = true) : RHTl T E' x' e' h' (0, t) X := by
  obtain ⟨i0, i1, it⟩ := unITl T 0 t hI
  have := bt_lo t 0; have := bt_hi t 0
  have := lenDrop (l := t) (P := 1) (by omega) (by omega)
  refine stTl_0 T t (h := hyTl_p1) (0, (List.drop (Int.toNat (1)) t)) ?_ (mkITl T 0 (List.drop (Int.toNat (1)) t) ⟨by rw [← i0]; exact trL_step (by omega) (by assumption), by rw [List.length_drop]; omega⟩) (by show (List.drop (Int.toNat (1)) t).length < t.length; rw [List.length_drop]; omega) (thXv (v := St' (List.drop (Int.toNat (1)) t)) rfl rfl (thNil)) runTl_p1
  unfold hyTl_p1
  exact hc (lnV rfl rfl (by omega)) <|
   hc (gtcT rfl (by omega)) <|
   hc (ixC rfl rfl (by omega)) <|
   hc (kTabB 4294967808 (by kernel_rfl) (isX rfl) (by omega) (by omega) ((by assumption))) <|
   hc (drC rfl rfl (by omega)) <|
   hnil
def hyTl_p2 : LK := [(.len (.x 0), .x 5), (.bin .gtr (.x 5) (.i .i64 (.ofNat 0)), .b true), (.idx (.x 0) (.i .i64 (.ofNat 0)), .x 6), (.tab ascL (.x 6), .b false)]
theorem runTl_p2 : RNTl_0 hyTl_p2 (.exit 0) [(0, .x 0)] [] 9 [(0, .x 0)] [(8, .b ⟨135, .l ascL, 0, 0, 0, false, false⟩)] = true := by kernel_rfl
def nuETl_0 (T : LB) : List Value := [St' T]
def roETl_0 (T : LB) : List Value := []
noncomputable def ETl_0 (T : LB) : Cx := cx (nuX (nuETl_0 T) (rX (roETl_0 T) (fun _ => .bool true))) (nuX_one (nuL_one (l := nuETl_0 T) rfl)) 1 laidE laidE_stab
theorem roundsTl_0 (T : LB) (st : Nat × LB) (X : Nat → Value) (hI : InvTl T st) : RHTl T (ETl_0 T) (.exit 0) [(0, .x 0)] [(8, .b ⟨135, .l ascL, 0, 0, 0, false, false⟩)] st X := by
  obtain ⟨tag, t⟩ := st
  have hI0 := hI
  obtain ⟨i0, i1, it⟩ := unITl T tag t hI
  obtain rfl : tag = 0 := by omega
  skip
  by_cases h0 : 0 < (t.length : Int)
  · by_cases h1 : tb8 4294967808 (bt t 0) = true
    · exact nxTl_p1 T t X hI0 h0 h1
    · skip
      have := bt_lo t 0; have := bt_hi t 0
      refine lvTl_0 T t (h := hyTl_p2) rfl ?_ (thXe (v := St' t) (u := St' T) rfl rfl (congrArg (fun l => St' l) (by rw [← i0]; exact (trL_end (by omega) (by assumption)).symm)) (thNil)) runTl_p2
      unfold hyTl_p2
      exact hc (lnV rfl rfl (by omega)) <|
       hc (gtcT rfl (by omega)) <|
       hc (ixC rfl rfl (by omega)) <|
       hc (kTabB 4294967808 (by kernel_rfl) (isX rfl) (by omega) (by omega) (tbF (by assumption))) <|
       hnil
  · skip
    refine lvTl_0 T t (h := hyTl_p0) rfl ?_ (thXe (v := St' t) (u := St' T) rfl rfl (congrArg (fun l => St' l) (by rw [← i0]; exact (trL_nil (by omega)).symm)) (thNil)) runTl_p0
    unfold hyTl_p0
    exact hc (lnV rfl rfl (by omega)) <|
     hc (gtcF rfl (by omega)) <|
     hnil
theorem lfOkTl_0 {l : LF} {h : LH} (T : LB) (st : Nat × LB) (hI : InvTl T st) (hl : l.hp = some h) (hs : lfSame l h 16 keepTl (.exit 0) 7 9 9 = true) {th0 : LA} {sg0 : List (Nat × Nat)} (hth0 : ∀ X, ThOk (cx nu one 1 laidE laidE_stab) (DTl T st X) th0) (h0 : startOk l h 16 9 9 th0 sg0 (epTl st) (hpTl st) = true) {thx : LA} (hthx : ThOk (ETl_0 T) (cx nu one 1 laidE laidE_stab) thx) (hx : exitOk l h 16 9 9 thx [(0, .x 0)] [(8, .b ⟨135, .l ascL, 0, 0, 0, false, false⟩)] = true) : LfOk (cx nu one 1 laidE laidE_stab) bodyTl l :=
  lfOkX (E := ETl_0 T) (InvTl T) (muTl T) (DTl T) (fun _ _ => rfl) (fun _ _ => rfl) (fun _ _ => rfl) (fun st X t ht => nuX_keep.trans (rX_keep ((by decide : ∀ t, t ∈ keepTl → t < 1000000) t ht))) rfl rfl rfl hl hs ebTl rfl rfl st hI hth0 h0 hthx hx (roundsTl_0 T)
noncomputable def fi97 : FI := (tabk.fn.get 97).getD default
theorem fi97_at : tabk.fn.get 97 = some fi97 := by kernel_rfl
theorem fi97_body : fi97.body = some (Tryd.f97.body.getD .skip) := by kernel_rfl
theorem fiB97 : fi97.body.isSome = true := by rw [fi97_body]; rfl
noncomputable def fi65 : FI := (tabk.fn.get 65).getD default
theorem fi65_at : tabk.fn.get 65 = some fi65 := by kernel_rfl
theorem fi65_body : fi65.body = some (Tryd.f65.body.getD .skip) := by kernel_rfl
theorem fiB65 : fi65.body.isSome = true := by rw [fi65_body]; rfl
noncomputable def fi96 : FI := (tabk.fn.get 96).getD default
theorem fi96_at : tabk.fn.get 96 = some fi96 := by kernel_rfl
theorem fi96_body : fi96.body = some (Tryd.f96.body.getD .skip) := by kernel_rfl
theorem fiB96 : fi96.body.isSome = true := by rw [fi96_body]; rfl
theorem fiNTrim : tabk.fn.get 65 = some (fI Tryd.f65 0) ∧ (fI Tryd.f65 0).body.isSome = true := ⟨rfl, by kernel_rfl⟩
def hyTrim_0 : LK := [(.bin .eql (.x 0) (.s 0 0), .b true)]
theorem runTrim_0 (e : Nat) : okA (call (tbl hyTrim_0) 9000 65 [.x 0, .s 2 2336] ⟨H0 e , 7, 0, 0⟩) (.x 0) = true := by kernel_rfl
def nuTrim_0 (s : LB) : List Value := [St' s]
theorem pathTrim_0 (s : LB) (b0 : s.length ≤ 9223372036854775807) (p0 : s.length ≤ 140737488355328) (h0 : (s.length : Int) = 0) (w : World) (hl : laidE w) : CwR 65 #[St' s, St' [u8 32, u8 9]] w (St' s) := by
  have ho : ∀ k r, (k, r) ∈ hyTrim_0 → HOk (cx (nuL (nuTrim_0 s)) (fun j _ => nuL_one (l := nuTrim_0 s) rfl j) 1 laidE laidE_stab) k r := by
    unfold hyTrim_0
    exact hc (kEqS (isX rfl) (isSx (l := ([] : LB)) 0 0 rfl) (nilT (by omega))) <|
     hnil
  refine runC (tb := (tbl hyTrim_0)) (ra := .x 0) rfl ((tabkOk (nuL (nuTrim_0 s)) (fun j _ => nuL_one (l := nuTrim_0 s) rfl j)).hyps ho) rfl fiNTrim.1 fiNTrim.2 (fun e => runTrim_0 e ) (args := [St' s, St' [u8 32, u8 9]]) (by simp only [RelL, Rel]; exact ⟨_, _, rfl, rfl, ⟨_, _, rfl, ⟨rfl, by decide⟩, rfl⟩⟩) w hl fun x hx => ?_
  simp only [Rel, RelL] at hx
  exact hx
def hyTrim_1 : LK := [(.bin .eql (.x 0) (.s 0 0), .b false)]
def lh12 : LH := ⟨7, 9, 9, [(8, .b ⟨135, .l ascL, 0, 0, 0, false, false⟩)], [(8, .b ⟨135, .l ascL, 0, 0, 0, false, false⟩)]⟩
def lf12 : LF := ⟨1, 22, [(0, .x 0), (1, .p 8 0)], [], (.exit 0), [(0, .x 1)], some lh12⟩
def lh13 : LH := ⟨7, 9, 9, [(8, .b ⟨135, .l ascL, 0, 0, 0, false, false⟩)], [(8, .b ⟨135, .l ascL, 0, 0, 0, false, false⟩)]⟩
def lf13 : LF := ⟨1, 16, [(0, .x 1), (1, .p 8 0)], [], (.exit 0), [(0, .x 2)], some lh13⟩
noncomputable def tabTrim_1 : Tab := addLps (addLps ({ tabk with hyp := hyTrim_1 }) 97 fi97 [lf12]) 96 fi96 [lf13]
theorem runTrim_1 (e : Nat) : okA (call tabTrim_1 9000 65 [.x 0, .s 2 2336] ⟨H0 e , 7, 0, 0⟩) (.x 2) = true := by kernel_rfl
def nuTrim_1 (s : LB) : List Value := [St' s, St' (trR s), St' (trL (trR s))]
theorem pathTrim_1 (s : LB) (b0 : s.length ≤ 9223372036854775807) (p0 : s.length ≤ 140737488355328) (h0 : ¬ ((s.length : Int) = 0)) (w : World) (hl : laidE w) : CwR 65 #[St' s, St' [u8 32, u8 9]] w (St' (trL (trR s))) := by
  have := trR_len s
  have := trL_len (trR s)
  have ho : ∀ k r, (k, r) ∈ hyTrim_1 → HOk (cx (nuL (nuTrim_1 s)) (fun j _ => nuL_one (l := nuTrim_1 s) rfl j) 1 laidE laidE_stab) k r := by
    unfold hyTrim_1
    exact hc (kEqS (isX rfl) (isSx (l := ([] : LB)) 0 0 rfl) (nilF (by omega))) <|
     hnil
  refine runC (tb := tabTrim_1) (ra := .x 2) rfl (AllOk.lp1 (AllOk.lp1 ((tabkOk (nuL (nuTrim_1 s)) (fun j _ => nuL_one (l := nuTrim_1 s) rfl j)).hyps ho) (by omega) fi97_at fi97_body (lfCons (lpKnown rfl ⟨0, keyTr, lfOkTr_0 (l := lf12) (h := lh12) (trR s) (0, s) (mkITr (trR s) 0 s ⟨rfl, by first | omega | (simp <;> omega)⟩) rfl (by kernel_rfl) (th0 := [(0, .x 0)]) (sg0 := []) (fun X => thXv (v := St' s) rfl rfl (thNil)) (by kernel_rfl) (thx := [(1, .x 0)]) (thXv (v := St' (trR s)) rfl rfl (thNil)) (by kernel_rfl)⟩) lfNil)) (by omega) (get_lps2 (by omega) (by omega) fi96_at) fi96_body (lfCons (lpKnown rfl ⟨0, keyTl, lfOkTl_0 (l := lf13) (h := lh13) (trL (trR s)) (0, (trR s)) (mkITl (trL (trR s)) 0 (trR s) ⟨rfl, by first | omega | (simp <;> omega)⟩) rfl (by kernel_rfl) (th0 := [(0, .x 1)]) (sg0 := []) (fun X => thXv (v := St' (trR s)) rfl rfl (thNil)) (by kernel_rfl) (thx := [(2, .x 0)]) (thXv (v := St' (trL (trR s))) rfl rfl (thNil)) (by kernel_rfl)⟩) lfNil)) rfl (get_lps2 (by omega) (by omega) (get_lps2 (by omega) (by omega) fi65_at)) fiB65 (fun e => runTrim_1 e ) (args := [St' s, St' [u8 32, u8 9]]) (by simp only [RelL, Rel]; exact ⟨_, _, rfl, rfl, ⟨_, _, rfl, ⟨rfl, by decide⟩, rfl⟩⟩) w hl fun x hx => ?_
  simp only [Rel, RelL] at hx
  exact hx
theorem callsTrim (s : LB) (b0 : s.length ≤ 9223372036854775807) (p0 : s.length ≤ 140737488355328) (w : World) (hl : laidE w) : CwR 65 #[St' s, St' [u8 32, u8 9]] w (St' (trS s)) := by
  by_cases h0 : (s.length : Int) = 0
  · rw [show (St' (trS s) : Value) = (St' s : Value) from by first | rfl | (have e : s = [] := List.eq_nil_of_length_eq_zero (by omega); subst e; rfl)]
    exact pathTrim_0 s b0 p0 h0 w hl
  · rw [show (St' (trS s) : Value) = (St' (trL (trR s)) : Value) from by first | rfl | (have e : s = [] := List.eq_nil_of_length_eq_zero (by omega); subst e; rfl)]
    exact pathTrim_1 s b0 p0 h0 w hl
theorem hokTrim {x0 x1 r : AV} {s : LB} (i0 : Is (cx nu one 1 laidE laidE_stab) x0 (St' s)) (i1 : Is (cx nu one 1 laidE laidE_stab) x1 (St' [u8 32, u8 9])) (hr : Den (cx nu one 1 laidE laidE_stab) r (St' (trS s))) (b0 : s.length ≤ 9223372036854775807) (p0 : s.length ≤ 140737488355328) : HOk (cx nu one 1 laidE laidE_stab) (.call 65 [x0, x1]) r := by
  intro ρ args ha w hl _
  simp only [RelL] at ha
  obtain ⟨v0, t0, rfl, a0, v1, t1, rfl, a1, rfl⟩ := ha
  have e0 := i0 ρ _ a0; subst e0
  have e1 := i1 ρ _ a1; subst e1
  exact (callsTrim s b0 p0 w hl).mono fun e w' he => ⟨_, he.1, hr ρ, he.2⟩
def trQ (l : LB) : LB := trR (trL l)
theorem bl_yes {c : Int} (h : c = 32 ∨ c = 9) : tb8 4294967808 c = true := by rcases h with rfl | rfl <;> decide
theorem bl_no {c : Int} (h0 : 0 ≤ c) (h1 : c ≤ 255) (a : ¬ c = 32) (b : ¬ c = 9) : ¬ (tb8 4294967808 c = true) := by
  obtain ⟨n, rfl⟩ := Int.eq_ofNat_of_zero_le h0
  have h : ∀ n : Nat, n < 256 → n ≠ 32 → n ≠ 9 → ¬ (tb8 4294967808 (n : Int) = true) := by decide
  exact h n (by omega) (by omega) (by omega)
noncomputable def bodyQl : Code := loopNo (Tryd.f25.body.getD .skip) 0
theorem keyQl : oneKey (loopsOf (Tryd.f25.body.getD .skip)) 1 0 0 = true := by kernel_rfl
def keepQl : List Nat := []
def epQl_0 : LA := [(0, .x 0)]
def hpQl_0 : LE := []
def nuQl_0 (T t : LB) : List Value := [St' t, .int .i64 ((t.length : Int)), .int .i64 ((t.length : Int)), .int .u8 (bt t 0), St' (List.drop (Int.toNat (1)) t), .int .i64 ((t.length : Int)), .int .u8 (bt t 0), St' (List.drop (Int.toNat (1)) t), .int .i64 ((t.length : Int)), .int .u8 (bt t 0)]
def roQl_0 (T t : LB) : List Value := []
def epQl (st : Nat × LB) : LA := epQl_0
def hpQl (st : Nat × LB) : LE := hpQl_0
def nuQl (T : LB) (st : Nat × LB) : List Value := nuQl_0 T (st.2)
def roQl (T : LB) (st : Nat × LB) : List Value := roQl_0 T (st.2)
theorem onQl (T : LB) (st : Nat × LB) : ∀ j, (nuL (nuQl T st) j).oneCell' = true := by
  intro j
  unfold nuQl
  exact nuL_one (l := nuQl_0 T (st.2)) rfl j
theorem ebQl (st : Nat × LB) : (lfB (epQl st) && lfC keepQl) = true := by
  unfold epQl
  rfl
noncomputable def DQl (T : LB) (st : Nat × LB) (X : Nat → Value) : Cx := cx (nuX (nuQl T st) (rX (roQl T st) X)) (nuX_one (onQl T st)) 1 laidE laidE_stab
def InvQl (T : LB) (st : Nat × LB) : Prop := (trL (st.2) = T) ∧ ((st.2).length ≤ 140737488355328) ∧ ((st.1) < 1)
abbrev CjQl (T : LB) (tag : Nat) (t : LB) : Prop := (trL t = T) ∧ (t.length ≤ 140737488355328) ∧ (tag < 1)
theorem mkIQl (T : LB) (tag : Nat) (t : LB) (h : CjQl T tag t) : InvQl T (tag, t) := h
theorem unIQl (T : LB) (tag : Nat) (t : LB) (h : InvQl T (tag, t)) : (trL t = T) ∧ (t.length ≤ 140737488355328) ∧ (tag < 1) := h
def muQl (T : LB) (st : Nat × LB) : Nat := (st.2).length
abbrev RHQl (T : LB) (E' : Cx) (ex' : Ex) (epx' : LA) (hpx' : LE) (st : Nat × LB) (X : Nat → Value) : Prop := RoundH E' bodyQl keepQl 30 ex' 7 7 7 7 epQl hpQl epx' hpx' (InvQl T) (muQl T) (DQl T) st X
noncomputable abbrev RNQl_0 (h : LK) (x : Ex) (th : LA) (sg : List (Nat × Nat)) (m : Nat) (ep : LA) (hp : LE) : Bool := okRdH (code (tbl h) 400 [] bodyQl (envOf (headOf epQl_0 keepQl) 30) ⟨lhSet hpQl_0 .leaf, 7, 0, 0⟩) x keepQl 30 7 th sg 7 m ep hp
theorem stQl_0 (T t : LB) {X : Nat → Value} {h : LK} (y : Nat × LB) {th : LA} {sg : List (Nat × Nat)} (ho : ∀ a' r', (a', r') ∈ h → HOk (cx (nuX (nuQl_0 T t) (rX (roQl_0 T t) X)) (nuX_one (nuL_one (l := nuQl_0 T t) rfl)) 1 laidE laidE_stab) a' r') (hy : InvQl T y) (lt : muQl T y < muQl T (0, t)) (ht : ThOk (cx (nuX (nuQl_0 T t) (rX (roQl_0 T t) X)) (nuX_one (nuL_one (l := nuQl_0 T t) rfl)) 1 laidE laidE_stab) (DQl T y X) th) (run : RNQl_0 h .normal th sg 7 (epQl y) (hpQl y) = true) : RHQl T E' x' e' h' (0, t) X :=
  RoundH.next (tb := tbl h) (L := []) (f := 400) y ((tabkOk _ _).hyps ho) (LpOk.nil _) rfl hy lt ht run
theorem lvQl_0 (T t : LB) {X : Nat → Value} {h : LK} {th : LA} {sg : List (Nat × Nat)} (hne : exB x' .normal = false) (ho : ∀ a' r', (a', r') ∈ h → HOk (cx (nuX (nuQl_0 T t) (rX (roQl_0 T t) X)) (nuX_one (nuL_one (l := nuQl_0 T t) rfl)) 1 laidE laidE_stab) a' r') (ht : ThOk (cx (nuX (nuQl_0 T t) (rX (roQl_0 T t) X)) (nuX_one (nuL_one (l := nuQl_0 T t) rfl)) 1 laidE laidE_stab) E' th) (run : RNQl_0 h x' th sg 7 e' h' = true) : RHQl T E' x' e' h' (0, t) X :=
  RoundH.leave (tb := tbl h) (L := []) (f := 400) ((tabkOk _ _).hyps ho) (LpOk.nil _) rfl hne ht run
def hyQl_p0 : LK := [(.len (.x 0), .x 1), (.bin .gtr (.x 1) (.i .i64 (.ofNat 0)), .b false)]
theorem runQl_p0 : RNQl_0 hyQl_p0 (.exit 0) [(0, .x 0)] [] 7 [(0, .x 0)] [] = true := by kernel_rfl
def hyQl_p1 : LK := [(.len (.x 0), .x 2), (.bin .gtr (.x 2) (.i .i64 (.ofNat 0)), .b true), (.idx (.x 0) (.i .i64 (.ofNat 0)), .x 3), (.bin .eql (.x 3) (.i .u8 (.ofNat 32)), .b true), (.sub (.x 0) (some (.i .i64 (.ofNat 1))) none, .x 4)]
theorem runQl_p1 : RNQl_0 hyQl_p1 .normal [(0, .x 4)] [] 7 epQl_0 hpQl_0 = true := by kernel_rfl
theorem nxQl_p1 (T : LB) (t : LB) (X : Nat → Value) (hI : InvQl T (0, t)) (h0 : 0 < (t.length : Int)) (h1 : bt t 0 = 32) : RHQl T E' x' e' h' (0, t) X := by
  obtain ⟨i0, i1, it⟩ := unIQl T 0 t hI
  have := bt_lo t 0; have := bt_hi t 0
  have := lenDrop (l := t) (P := 1) (by omega) (by omega)
  refine stQl_0 T t (h := hyQl_p1) (0, (List.drop (Int.toNat (1)) t)) ?_ (mkIQl T 0 (List.drop (Int.toNat (1)) t) ⟨by rw [← i0]; exact trL_step (by omega) (by first | exact bl_yes (.inl (by omega)) | exact bl_yes (.inr (by omega))), by rw [List.length_drop]; omega⟩) (by show (List.drop (Int.toNat (1)) t).length < t.length; rw [List.length_drop]; omega) (thXv (v := St' (List.drop (Int.toNat (1)) t)) rfl rfl (thNil)) runQl_p1
  unfold hyQl_p1
  exact hc (lnV rfl rfl (by omega)) <|
   hc (gtcT rfl (by omega)) <|
   hc (ixC rfl rfl (by omega)) <|
   hc (eqcT rfl (by omega)) <|
   hc (drC rfl rfl (by omega)) <|
   hnil
def hyQl_p2 : LK := [(.len (.x 0), .x 5), (.bin .gtr (.x 5) (.i .i64 (.ofNat 0)), .b true), (.idx (.x 0) (.i .i64 (.ofNat 0)), .x 6), (.bin .eql (.x 6) (.i .u8 (.ofNat 32)), .b false), (.bin .eql (.x 6) (.i .u8 (.ofNat 9)), .b true), (.sub (.x 0) (some (.i .i64 (.ofNat 1))) none, .x 7)]
theorem runQl_p2 : RNQl_0 hyQl_p2 .normal [(0, .x 7)] [] 7 epQl_0 hpQl_0 = true := by kernel_rfl
theorem nxQl_p2 (T : LB) (t : LB) (X : Nat → Value) (hI : InvQl T (0, t)) (h0 : 0 < (t.length : Int)) (h1 : ¬ (bt t 0 = 32)) (h2 : bt t 0 = 9) : RHQl T E' x' e' h' (0, t) X := by
  obtain ⟨i0, i1, it⟩ := unIQl T 0 t hI
  have := bt_lo t 0; have := bt_hi t 0
  have := lenDrop (l := t) (P := 1) (by omega) (by omega)
  refine stQl_0 T t (h := hyQl_p2) (0, (List.drop (Int.toNat (1)) t)) ?_ (mkIQl T 0 (List.drop (Int.toNat (1)) t) ⟨by rw [← i0]; exact trL_step (by omega) (by first | exact bl_yes (.inl (by omega)) | exact bl_yes (.inr (by omega))), by rw [List.length_drop]; omega⟩) (by show (List.drop (Int.toNat (1)) t).length < t.length; rw [List.length_drop]; omega) (thXv (v := St' (List.drop (Int.toNat (1)) t)) rfl rfl (thNil)) runQl_p2
  unfold hyQl_p2
  exact hc (lnV rfl rfl (by omega)) <|
   hc (gtcT rfl (by omega)) <|
   hc (ixC rfl rfl (by omega)) <|
   hc (eqcF rfl (by omega)) <|
   hc (eqcT rfl (by omega)) <|
   hc (drC rfl rfl (by omega)) <|
   hnil
def hyQl_p3 : LK := [(.len (.x 0), .x 8), (.bin .gtr (.x 8) (.i .i64 (.ofNat 0)), .b true), (.idx (.x 0) (.i .i64 (.ofNat 0)), .x 9), (.bin .eql (.x 9) (.i .u8 (.ofNat 32)), .b false), (.bin .eql (.x 9) (.i .u8 (.ofNat 9)), .b false)]
theorem runQl_p3 : RNQl_0 hyQl_p3 (.exit 0) [(0, .x 0)] [] 7 [(0, .x 0)] [] = true := by kernel_rfl
def nuEQl_0 (T : LB) : List Value := [St' T]
def roEQl_0 (T : LB) : List Value := []
noncomputable def EQl_0 (T : LB) : Cx := cx (nuX (nuEQl_0 T) (rX (roEQl_0 T) (fun _ => .bool true))) (nuX_one (nuL_one (l := nuEQl_0 T) rfl)) 1 laidE laidE_stab
theorem roundsQl_0 (T : LB) (st : Nat × LB) (X : Nat → Value) (hI : InvQl T st) : RHQl T (EQl_0 T) (.exit 0) [(0, .x 0)] [] st X := by
  obtain ⟨tag, t⟩ := st
  have hI0 := hI
  obtain ⟨i0, i1, it⟩ := unIQl T tag t hI
  obtain rfl : tag = 0 := by omega
  skip
  by_cases h0 : 0 < (t.length : Int)
  · by_cases h1 : bt t 0 = 32
    · exact nxQl_p1 T t X hI0 h0 h1
    · by_cases h2 : bt t 0 = 9
      · exact nxQl_p2 T t X hI0 h0 h1 h2
      · skip
        have := bt_lo t 0; have := bt_hi t 0
        refine lvQl_0 T t (h := hyQl_p3) rfl ?_ (thXe (v := St' t) (u := St' T) rfl rfl (congrArg (fun l => St' l) (by rw [← i0]; exact (trL_end (by omega) (bl_no (bt_lo _ _) (bt_hi _ _) (by assumption) (by assumption))).symm)) (thNil)) runQl_p3
        unfold hyQl_p3
        exact hc (lnV rfl rfl (by omega)) <|
         hc (gtcT rfl (by omega)) <|
         hc (ixC rfl rfl (by omega)) <|
         hc (eqcF rfl (by omega)) <|
         hc (eqcF rfl (by omega)) <|
         hnil
  · skip
    refine lvQl_0 T t (h := hyQl_p0) rfl ?_ (thXe (v := St' t) (u := St' T) rfl rfl (congrArg (fun l => St' l) (by rw [← i0]; exact (trL_nil (by omega)).symm)) (thNil)) runQl_p0
    unfold hyQl_p0
    exact hc (lnV rfl rfl (by omega)) <|
     hc (gtcF rfl (by omega)) <|
     hnil
theorem lfOkQl_0 {l : LF} {h : LH} (T : LB) (st : Nat × LB) (hI : InvQl T st) (hl : l.hp = some h) (hs : lfSame l h 30 keepQl (.exit 0) 7 7 7 = true) {th0 : LA} {sg0 : List (Nat × Nat)} (hth0 : ∀ X, ThOk (cx nu one 1 laidE laidE_stab) (DQl T st X) th0) (h0 : startOk l h 30 7 7 th0 sg0 (epQl st) (hpQl st) = true) {thx : LA} (hthx : ThOk (EQl_0 T) (cx nu one 1 laidE laidE_stab) thx) (hx : exitOk l h 30 7 7 thx [(0, .x 0)] [] = true) : LfOk (cx nu one 1 laidE laidE_stab) bodyQl l :=
  lfOkX (E := EQl_0 T) (InvQl T) (muQl T) (DQl T) (fun _ _ => rfl) (fun _ _ => rfl) (fun _ _ => rfl) (fun st X t ht => nuX_keep.trans (rX_keep ((by decide : ∀ t, t ∈ keepQl → t < 1000000) t ht))) rfl rfl rfl hl hs ebQl rfl rfl st hI hth0 h0 hthx hx (roundsQl_0 T)
noncomputable def bodyQr : Code := loopNo (Tryd.f25.body.getD .skip) 1
theorem keyQr : oneKey (loopsOf (Tryd.f25.body.getD .skip)) 3 1 0 = true := by kernel_rfl
def keepQr : List Nat := []
def epQr_0 : LA := [(0, .x 0)]
def hpQr_0 : LE := []
def nuQr_0 (T t : LB) : List Value := [St' t, .int .i64 ((t.length : Int)), .int .i64 ((t.length : Int)), .int .i64 ((t.length : Int) - 1), .int .u8 (bt t (Int.toNat ((t.length : Int) - 1))), St' (List.take (Int.toNat ((t.length : Int) - 1)) t), .int .i64 ((t.length : Int)), .int .i64 ((t.length : Int) - 1), .int .u8 (bt t (Int.toNat ((t.length : Int) - 1))), St' (List.take (Int.toNat ((t.length : Int) - 1)) t), .int .i64 ((t.length : Int)), .int .i64 ((t.length : Int) - 1), .int .u8 (bt t (Int.toNat ((t.length : Int) - 1)))]
def roQr_0 (T t : LB) : List Value := []
def epQr (st : Nat × LB) : LA := epQr_0
def hpQr (st : Nat × LB) : LE := hpQr_0
def nuQr (T : LB) (st : Nat × LB) : List Value := nuQr_0 T (st.2)
def roQr (T : LB) (st : Nat × LB) : List Value := roQr_0 T (st.2)
theorem onQr (T : LB) (st : Nat × LB) : ∀ j, (nuL (nuQr T st) j).oneCell' = true := by
  intro j
  unfold nuQr
  exact nuL_one (l := nuQr_0 T (st.2)) rfl j
theorem ebQr (st : Nat × LB) : (lfB (epQr st) && lfC keepQr) = true := by
  unfold epQr
  rfl
noncomputable def DQr (T : LB) (st : Nat × LB) (X : Nat → Value) : Cx := cx (nuX (nuQr T st) (rX (roQr T st) X)) (nuX_one (onQr T st)) 1 laidE laidE_stab
def InvQr (T : LB) (st : Nat × LB) : Prop := (trR (st.2) = T) ∧ ((st.2).length ≤ 140737488355328) ∧ ((st.1) < 1)
abbrev CjQr (T : LB) (tag : Nat) (t : LB) : Prop := (trR t = T) ∧ (t.length ≤ 140737488355328) ∧ (tag < 1)
theorem mkIQr (T : LB) (tag : Nat) (t : LB) (h : CjQr T tag t) : InvQr T (tag, t) := h
theorem unIQr (T : LB) (tag : Nat) (t : LB) (h : InvQr T (tag, t)) : (trR t = T) ∧ (t.length ≤ 140737488355328) ∧ (tag < 1) := h
def muQr (T : LB) (st : Nat × LB) : Nat := (st.2).length
abbrev RHQr (T : LB) (E' : Cx) (ex' : Ex) (epx' : LA) (hpx' : LE) (st : Nat × LB) (X : Nat → Value) : Prop := RoundH E' bodyQr keepQr 30 ex' 7 7 7 7 epQr hpQr epx' hpx' (InvQr T) (muQr T) (DQr T) st X
noncomputable abbrev RNQr_0 (h : LK) (x : Ex) (th : LA) (sg : List (Nat × Nat)) (m : Nat) (ep : LA) (hp : LE) : Bool := okRdH (code (tbl h) 400 [] bodyQr (envOf (headOf epQr_0 keepQr) 30) ⟨lhSet hpQr_0 .leaf, 7, 0, 0⟩) x keepQr 30 7 th sg 7 m ep hp
theorem stQr_0 (T t : LB) {X : Nat → Value} {h : LK} (y : Nat × LB) {th : LA} {sg : List (Nat × Nat)} (ho : ∀ a' r', (a', r') ∈ h → HOk (cx (nuX (nuQr_0 T t) (rX (roQr_0 T t) X)) (nuX_one (nuL_one (l := nuQr_0 T t) rfl)) 1 laidE laidE_stab) a' r') (hy : InvQr T y) (lt : muQr T y < muQr T (0, t)) (ht : ThOk (cx (nuX (nuQr_0 T t) (rX (roQr_0 T t) X)) (nuX_one (nuL_one (l := nuQr_0 T t) rfl)) 1 laidE laidE_stab) (DQr T y X) th) (run : RNQr_0 h .normal th sg 7 (epQr y) (hpQr y) = true) : RHQr T E' x' e' h' (0, t) X :=
  RoundH.next (tb := tbl h) (L := []) (f := 400) y ((tabkOk _ _).hyps ho) (LpOk.nil _) rfl hy lt ht run
theorem lvQr_0 (T t : LB) {X : Nat → Value} {h : LK} {th : LA} {sg : List (Nat × Nat)} (hne : exB x' .normal = false) (ho : ∀ a' r', (a', r') ∈ h → HOk (cx (nuX (nuQr_0 T t) (rX (roQr_0 T t) X)) (nuX_one (nuL_one (l := nuQr_0 T t) rfl)) 1 laidE laidE_stab) a' r') (ht : ThOk (cx (nuX (nuQr_0 T t) (rX (roQr_0 T t) X)) (nuX_one (nuL_one (l := nuQr_0 T t) rfl)) 1 laidE laidE_stab) E' th) (run : RNQr_0 h x' th sg 7 e' h' = true) : RHQr T E' x' e' h' (0, t) X :=
  RoundH.leave (tb := tbl h) (L := []) (f := 400) ((tabkOk _ _).hyps ho) (LpOk.nil _) rfl hne ht run
def hyQr_p0 : LK := [(.len (.x 0), .x 1), (.bin .gtr (.x 1) (.i .i64 (.ofNat 0)), .b false)]
theorem runQr_p0 : RNQr_0 hyQr_p0 (.exit 2) [(0, .x 0)] [] 7 [(0, .x 0)] [] = true := by kernel_rfl
def hyQr_p1 : LK := [(.len (.x 0), .x 2), (.bin .gtr (.x 2) (.i .i64 (.ofNat 0)), .b true), (.bin .sub (.x 2) (.i .i64 (.ofNat 1)), .x 3), (.idx (.x 0) (.x 3), .x 4), (.bin .eql (.x 4) (.i .u8 (.ofNat 32)), .b true), (.sub (.x 0) none (some (.x 3)), .x 5)]
theorem runQr_p1 : RNQr_0 hyQr_p1 .normal [(0, .x 5)] [] 7 epQr_0 hpQr_0 = true := by kernel_rfl
theorem nxQr_p1 (T : LB) (t : LB) (X : Nat → Value) (hI : InvQr T (0, t)) (h0 : 0 < (t.length : Int)) (h1 : bt t (Int.toNat ((t.length : Int) - 1)) = 32) : RHQr T E' x' e' h' (0, t) X := by
  obtain ⟨i0, i1, it⟩ := unIQr T 0 t hI
  have := bt_lo t (Int.toNat ((t.length : Int) - 1)); have := bt_hi t (Int.toNat ((t.length : Int) - 1))
  have := lenTake (l := t) (Q := (t.length : Int) - 1) (by omega) (by omega)
  refine stQr_0 T t (h := hyQr_p1) (0, (List.take (Int.toNat ((t.length : Int) - 1)) t)) ?_ (mkIQr T 0 (List.take (Int.toNat ((t.length : Int) - 1)) t) ⟨by rw [← i0]; exact trR_step (i := (Int.toNat ((t.length : Int) - 1))) (by omega) (by first | exact bl_yes (.inl (by omega)) | exact bl_yes (.inr (by omega))), by rw [List.length_take]; omega⟩) (by show (List.take (Int.toNat ((t.length : Int) - 1)) t).length < t.length; rw [List.length_take]; omega) (thXv (v := St' (List.take (Int.toNat ((t.length : Int) - 1)) t)) rfl rfl (thNil)) runQr_p1
  unfold hyQr_p1
  exact hc (lnV rfl rfl (by omega)) <|
   hc (gtcT rfl (by omega)) <|
   hc (sbC rfl rfl (by omega)) <|
   hc (ixV rfl rfl rfl (by omega)) <|
   hc (eqcT rfl (by omega)) <|
   hc (tkV rfl rfl rfl (by omega)) <|
   hnil
def hyQr_p2 : LK := [(.len (.x 0), .x 6), (.bin .gtr (.x 6) (.i .i64 (.ofNat 0)), .b true), (.bin .sub (.x 6) (.i .i64 (.ofNat 1)), .x 7), (.idx (.x 0) (.x 7), .x 8), (.bin .eql (.x 8) (.i .u8 (.ofNat 32)), .b false), (.bin .eql (.x 8) (.i .u8 (.ofNat 9)), .b true), (.sub (.x 0) none (some (.x 7)), .x 9)]
theorem runQr_p2 : RNQr_0 hyQr_p2 .normal [(0, .x 9)] [] 7 epQr_0 hpQr_0 = true := by kernel_rfl
theorem nxQr_p2 (T : LB) (t : LB) (X : Nat → Value) (hI : InvQr T (0, t)) (h0 : 0 < (t.length : Int)) (h1 : ¬ (bt t (Int.toNat ((t.length : Int) - 1)) = 32)) (h2 : bt t (Int.toNat ((t.length : Int) - 1)) = 9) : RHQr T E' x' e' h' (0, t) X := by
  obtain ⟨i0, i1, it⟩ := unIQr T 0 t hI
  have := bt_lo t (Int.toNat ((t.length : Int) - 1)); have := bt_hi t (Int.toNat ((t.length : Int) - 1))
  have := lenTake (l := t) (Q := (t.length : Int) - 1) (by omega) (by omega)
  refine stQr_0 T t (h := hyQr_p2) (0, (List.take (Int.toNat ((t.length : Int) - 1)) t)) ?_ (mkIQr T 0 (List.take (Int.toNat ((t.length : Int) - 1)) t) ⟨by rw [← i0]; exact trR_step (i := (Int.toNat ((t.length : Int) - 1))) (by omega) (by first | exact bl_yes (.inl (by omega)) | exact bl_yes (.inr (by omega))), by rw [List.length_take]; omega⟩) (by show (List.take (Int.toNat ((t.length : Int) - 1)) t).length < t.length; rw [List.length_take]; omega) (thXv (v := St' (List.take (Int.toNat ((t.length : Int) - 1)) t)) rfl rfl (thNil)) runQr_p2
  unfold hyQr_p2
  exact hc (lnV rfl rfl (by omega)) <|
   hc (gtcT rfl (by omega)) <|
   hc (sbC rfl rfl (by omega)) <|
   hc (ixV rfl rfl rfl (by omega)) <|
   hc (eqcF rfl (by omega)) <|
   hc (eqcT rfl (by omega)) <|
   hc (tkV rfl rfl rfl (by omega)) <|
   hnil
def hyQr_p3 : LK := [(.len (.x 0), .x 10), (.bin .gtr (.x 10) (.i .i64 (.ofNat 0)), .b true), (.bin .sub (.x 10) (.i .i64 (.ofNat 1)), .x 11), (.idx (.x 0) (.x 11), .x 12), (.bin .eql (.x 12) (.i .u8 (.ofNat 32)), .b false), (.bin .eql (.x 12) (.i .u8 (.ofNat 9)), .b false)]
theorem runQr_p3 : RNQr_0 hyQr_p3 (.exit 2) [(0, .x 0)] [] 7 [(0, .x 0)] [] = true := by kernel_rfl
def nuEQr_0 (T : LB) : List Value := [St' T]
def roEQr_0 (T : LB) : List Value := []
noncomputable def EQr_0 (T : LB) : Cx := cx (nuX (nuEQr_0 T) (rX (roEQr_0 T) (fun _ => .bool true))) (nuX_one (nuL_one (l := nuEQr_0 T) rfl)) 1 laidE laidE_stab
theorem roundsQr_0 (T : LB) (st : Nat × LB) (X : Nat → Value) (hI : InvQr T st) : RHQr T (EQr_0 T) (.exit 2) [(0, .x 0)] [] st X := by
  obtain ⟨tag, t⟩ := st
  have hI0 := hI
  obtain ⟨i0, i1, it⟩ := unIQr T tag t hI
  obtain rfl : tag = 0 := by omega
  skip
  by_cases h0 : 0 < (t.length : Int)
  · by_cases h1 : bt t (Int.toNat ((t.length : Int) - 1)) = 32
    · exact nxQr_p1 T t X hI0 h0 h1
    · by_cases h2 : bt t (Int.toNat ((t.length : Int) - 1)) = 9
      · exact nxQr_p2 T t X hI0 h0 h1 h2
      · skip
        have := bt_lo t (Int.toNat ((t.length : Int) - 1)); have := bt_hi t (Int.toNat ((t.length : Int) - 1))
        refine lvQr_0 T t (h := hyQr_p3) rfl ?_ (thXe (v := St' t) (u := St' T) rfl rfl (congrArg (fun l => St' l) (by rw [← i0]; exact (trR_end (i := (Int.toNat ((t.length : Int) - 1))) (by omega) (bl_no (bt_lo _ _) (bt_hi _ _) (by assumption) (by assumption))).symm)) (thNil)) runQr_p3
        unfold hyQr_p3
        exact hc (lnV rfl rfl (by omega)) <|
         hc (gtcT rfl (by omega)) <|
         hc (sbC rfl rfl (by omega)) <|
         hc (ixV rfl rfl rfl (by omega)) <|
         hc (eqcF rfl (by omega)) <|
         hc (eqcF rfl (by omega)) <|
         hnil
  · skip
    refine lvQr_0 T t (h := hyQr_p0) rfl ?_ (thXe (v := St' t) (u := St' T) rfl rfl (congrArg (fun l => St' l) (by rw [← i0]; exact (trR_nil (by omega)).symm)) (thNil)) runQr_p0
    unfold hyQr_p0
    exact hc (lnV rfl rfl (by omega)) <|
     hc (gtcF rfl (by omega)) <|
     hnil
theorem lfOkQr_0 {l : LF} {h : LH} (T : LB) (st : Nat × LB) (hI : InvQr T st) (hl : l.hp = some h) (hs : lfSame l h 30 keepQr (.exit 2) 7 7 7 = true) {th0 : LA} {sg0 : List (Nat × Nat)} (hth0 : ∀ X, ThOk (cx nu one 1 laidE laidE_stab) (DQr T st X) th0) (h0 : startOk l h 30 7 7 th0 sg0 (epQr st) (hpQr st) = true) {thx : LA} (hthx : ThOk (EQr_0 T) (cx nu one 1 laidE laidE_stab) thx) (hx : exitOk l h 30 7 7 thx [(0, .x 0)] [] = true) : LfOk (cx nu one 1 laidE laidE_stab) bodyQr l :=
  lfOkX (E := EQr_0 T) (InvQr T) (muQr T) (DQr T) (fun _ _ => rfl) (fun _ _ => rfl) (fun _ _ => rfl) (fun st X t ht => nuX_keep.trans (rX_keep ((by decide : ∀ t, t ∈ keepQr → t < 1000000) t ht))) rfl rfl rfl hl hs ebQr rfl rfl st hI hth0 h0 hthx hx (roundsQr_0 T)
noncomputable def fi25 : FI := (tabk.fn.get 25).getD default
theorem fi25_at : tabk.fn.get 25 = some fi25 := by kernel_rfl
theorem fi25_body : fi25.body = some (Tryd.f25.body.getD .skip) := by kernel_rfl
theorem fiB25 : fi25.body.isSome = true := by rw [fi25_body]; rfl
def hyQTrim_0 : LK := []
def lh14 : LH := ⟨7, 7, 7, [], []⟩
def lf14 : LF := ⟨1, 30, [(0, .x 0)], [], (.exit 0), [(0, .x 1)], some lh14⟩
def lh15 : LH := ⟨7, 7, 7, [], []⟩
def lf15 : LF := ⟨3, 30, [(0, .x 1)], [], (.exit 2), [(0, .x 2)], some lh15⟩
noncomputable def tabQTrim_0 : Tab := addLps ({ tabk with hyp := hyQTrim_0 }) 25 fi25 [lf14, lf15]
theorem runQTrim_0 (e : Nat) : okA (call tabQTrim_0 9000 25 [.x 0] ⟨H0 e , 7, 0, 0⟩) (.x 2) = true := by kernel_rfl
def nuQTrim_0 (s : LB) : List Value := [St' s, St' (trL s), St' (trR (trL s))]
theorem pathQTrim_0 (s : LB) (b0 : s.length ≤ 9223372036854775807) (p0 : s.length ≤ 140737488355328) (w : World) (hl : laidE w) : CwR 25 #[St' s] w (St' (trR (trL s))) := by
  have := trL_len s
  have := trR_len (trL s)
  have ho : ∀ k r, (k, r) ∈ hyQTrim_0 → HOk (cx (nuL (nuQTrim_0 s)) (fun j _ => nuL_one (l := nuQTrim_0 s) rfl j) 1 laidE laidE_stab) k r := by
    unfold hyQTrim_0
    exact hnil
  refine runC (tb := tabQTrim_0) (ra := .x 2) rfl (AllOk.lp1 ((tabkOk (nuL (nuQTrim_0 s)) (fun j _ => nuL_one (l := nuQTrim_0 s) rfl j)).hyps ho) (by omega) fi25_at fi25_body (lfCons (lpKnown rfl ⟨0, keyQl, lfOkQl_0 (l := lf14) (h := lh14) (trL s) (0, s) (mkIQl (trL s) 0 s ⟨rfl, by first | omega | (simp <;> omega)⟩) rfl (by kernel_rfl) (th0 := [(0, .x 0)]) (sg0 := []) (fun X => thXv (v := St' s) rfl rfl (thNil)) (by kernel_rfl) (thx := [(1, .x 0)]) (thXv (v := St' (trL s)) rfl rfl (thNil)) (by kernel_rfl)⟩) (lfCons (lpKnown rfl ⟨1, keyQr, lfOkQr_0 (l := lf15) (h := lh15) (trR (trL s)) (0, (trL s)) (mkIQr (trR (trL s)) 0 (trL s) ⟨rfl, by first | omega | (simp <;> omega)⟩) rfl (by kernel_rfl) (th0 := [(0, .x 1)]) (sg0 := []) (fun X => thXv (v := St' (trL s)) rfl rfl (thNil)) (by kernel_rfl) (thx := [(2, .x 0)]) (thXv (v := St' (trR (trL s))) rfl rfl (thNil)) (by kernel_rfl)⟩) lfNil))) rfl (get_lps (by omega)) fiB25 (fun e => runQTrim_0 e ) (args := [St' s]) (by simp only [RelL, Rel]; exact ⟨_, _, rfl, rfl, rfl⟩) w hl fun x hx => ?_
  simp only [Rel, RelL] at hx
  exact hx
theorem callsQTrim (s : LB) (b0 : s.length ≤ 9223372036854775807) (p0 : s.length ≤ 140737488355328) (w : World) (hl : laidE w) : CwR 25 #[St' s] w (St' (trQ s)) := by
  rw [show (St' (trQ s) : Value) = (St' (trR (trL s)) : Value) from by rfl]
  exact pathQTrim_0 s b0 p0 w hl
theorem hokQTrim {x0 r : AV} {s : LB} (i0 : Is (cx nu one 1 laidE laidE_stab) x0 (St' s)) (hr : Den (cx nu one 1 laidE laidE_stab) r (St' (trQ s))) (b0 : s.length ≤ 9223372036854775807) (p0 : s.length ≤ 140737488355328) : HOk (cx nu one 1 laidE laidE_stab) (.call 25 [x0]) r := by
  intro ρ args ha w hl _
  simp only [RelL] at ha
  obtain ⟨v0, t0, rfl, a0, rfl⟩ := ha
  have e0 := i0 ρ _ a0; subst e0
  exact (callsQTrim s b0 p0 w hl).mono fun e w' he => ⟨_, he.1, hr ρ, he.2⟩
theorem dw_app {p : UInt8 → Bool} : ∀ (l r : LB), (l ++ r).dropWhile p = if l.all p then r.dropWhile p else l.dropWhile p ++ r
  | [], r => by simp
  | a :: l, r => by
    rw [List.cons_append, List.dropWhile_cons, List.dropWhile_cons, List.all_cons]
    cases h : p a with
    | true => simp only [if_true, Bool.true_and]; exact dw_app l r
    | false => simp
theorem dw_all {p : UInt8 → Bool} : ∀ l : LB, l.all p = true → l.dropWhile p = []
  | [], _ => rfl
  | a :: l, h => by
    rw [List.all_cons, Bool.and_eq_true] at h
    rw [List.dropWhile_cons, h.1, if_pos rfl]; exact dw_all l h.2
theorem trR_cons {a : UInt8} {l : LB} (h : bl a = false) : trR (a :: l) = a :: trR l := by
  unfold trR
  rw [List.reverse_cons, dw_app]
  split
  · rename_i h2
    rw [dw_all l.reverse h2]
    simp [h]
  · simp
theorem trR_blank {a : UInt8} {l : LB} (h : bl a = true) : trL (trR (a :: l)) = trL (trR l) := by
  unfold trR
  rw [List.reverse_cons, dw_app]
  split
  · rename_i h2
    rw [dw_all l.reverse h2]
    simp [h]
  · rw [List.reverse_append, List.reverse_singleton, List.singleton_append]
    unfold trL; rw [List.dropWhile_cons, h, if_pos rfl]
theorem trSQ : ∀ l : LB, trS l = trQ l
  | [] => rfl
  | a :: l => by
    unfold trS trQ
    cases h : bl a with
    | true =>
      rw [trR_blank h]
      have e : trL (a :: l) = trL l := by unfold trL; rw [List.dropWhile_cons, h, if_pos rfl]
      rw [e]; exact trSQ l
    | false =>
      have e : trL (a :: l) = a :: l := by unfold trL; rw [List.dropWhile_cons, h]; rfl
      rw [e, trR_cons h]
      unfold trL; rw [List.dropWhile_cons, h]; rfl
end Go.Proofs.YtacflaaahanhgaaDoor.octetTells
