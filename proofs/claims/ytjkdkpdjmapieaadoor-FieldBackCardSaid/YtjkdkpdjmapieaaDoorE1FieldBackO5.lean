/- A part of the proof: an interpreter of the model's own code on partly known states, and that what it answers is what the program answers. No condition of its own. -/
import Derived.Test.YtjkdkpdjmapieaaDoorE1FieldBackO4
set_option maxRecDepth 100000
set_option linter.unusedVariables false
set_option linter.unusedSimpArgs false
set_option maxHeartbeats 4000000
namespace Go.Proofs.YtjkdkpdjmapieaaDoor.fieldBack
open Go Go.AX Go.Proofs Go.Proofs.YtjkdkpdjmapieaaDoor
variable {nu : Nat → Value} {one : ∀ i, i < 1000000 → (nu i).oneCell' = true} {E' : Cx} {x' : Ex} {e' : LA} {h' : LE}
theorem nmAt {l : List (LB × LB)} {N : Nat} (h : ∀ q, q ∈ l → q.1.length ≤ N) (j : Nat) : (nthP l j).1.length ≤ N := by
  rw [nthP, List.getD_eq_getElem?_getD]
  cases hj : l[j]? with
  | none => exact Nat.zero_le _
  | some n => exact h n (List.mem_of_getElem? hj)
def dropS (nm : LB) (l : List (LB × LB)) : List (LB × LB) := l.filter fun p => !(lowS p.1 == lowS nm)
theorem dropS_y {nm : LB} {z : List (LB × LB)} {i : Int} (h0 : 0 ≤ i) (h1 : i < (z.length : Int)) (h : ¬ lowS (nthP z i.toNat).1 = lowS nm) : dropS nm (z.take (i + 1).toNat) = dropS nm (z.take i.toNat) ++ [((nthP z i.toNat).1, (nthP z i.toNat).2)] := by
  have e : (lowS (nthP z i.toNat).1 == lowS nm) = false := by simpa using h
  rw [takeP h0 h1, dropS, dropS, List.filter_append, List.filter_cons, e]; rfl
theorem dropS_n {nm : LB} {z : List (LB × LB)} {i : Int} (h0 : 0 ≤ i) (h1 : i < (z.length : Int)) (h : lowS (nthP z i.toNat).1 = lowS nm) : dropS nm (z.take (i + 1).toNat) = dropS nm (z.take i.toNat) := by
  have e : (lowS (nthP z i.toNat).1 == lowS nm) = true := by simpa using h
  rw [takeP h0 h1, dropS, dropS, List.filter_append, List.filter_cons, e]; simp
theorem dropS_x {nm : LB} {z : List (LB × LB)} {i : Int} (h0 : 0 ≤ i) (h1 : ¬ i < (z.length : Int)) : dropS nm (z.take i.toNat) = dropS nm z := by
  rw [List.take_of_length_le (by omega)]
theorem dropS_len (nm : LB) (l : List (LB × LB)) : (dropS nm l).length ≤ l.length := List.length_filter_le _ _
def getS (nm : LB) (l : List (LB × LB)) : List LB := (l.filter fun p => lowS p.1 == lowS nm).map fun p => p.2
theorem getS_y {nm : LB} {z : List (LB × LB)} {i : Int} (h0 : 0 ≤ i) (h1 : i < (z.length : Int)) (h : lowS (nthP z i.toNat).1 = lowS nm) : getS nm (z.take (i + 1).toNat) = getS nm (z.take i.toNat) ++ [(nthP z i.toNat).2] := by
  have e : (lowS (nthP z i.toNat).1 == lowS nm) = true := by simpa using h
  rw [takeP h0 h1, getS, getS, List.filter_append, List.filter_cons, e, List.map_append]; rfl
theorem getS_n {nm : LB} {z : List (LB × LB)} {i : Int} (h0 : 0 ≤ i) (h1 : i < (z.length : Int)) (h : ¬ lowS (nthP z i.toNat).1 = lowS nm) : getS nm (z.take (i + 1).toNat) = getS nm (z.take i.toNat) := by
  have e : (lowS (nthP z i.toNat).1 == lowS nm) = false := by simpa using h
  rw [takeP h0 h1, getS, getS, List.filter_append, List.filter_cons, e]; simp
theorem getS_x {nm : LB} {z : List (LB × LB)} {i : Int} (h0 : 0 ≤ i) (h1 : ¬ i < (z.length : Int)) : getS nm (z.take i.toNat) = getS nm z := by
  rw [List.take_of_length_le (by omega)]
theorem getS_len (nm : LB) (l : List (LB × LB)) : (getS nm l).length ≤ l.length := by
  rw [getS, List.length_map]; exact List.length_filter_le _ _
theorem rep_snoc {c : UInt8} {i : Int} (h0 : 0 ≤ i) : List.replicate (Int.toNat (i)) c ++ [c] = List.replicate (Int.toNat (i + 1)) c := by
  rw [show (i + 1).toNat = i.toNat + 1 by omega, List.replicate_succ']
theorem al_rep {n : Nat} {c : UInt8} (h : bl c = true) : (List.replicate n c).all bl = true := by
  rw [List.all_eq_true]; intro x hx; rw [List.eq_of_mem_replicate hx]; exact h
theorem al_nil : ([] : LB).all bl = true := rfl
theorem trL_bl {a l : LB} (h : a.all bl = true) : trL (a ++ l) = trL l := by unfold trL; rw [dw_app, if_pos h]
theorem trR_bl {a l : LB} (h : a.all bl = true) : trR (l ++ a) = trR l := by
  unfold trR; rw [List.reverse_append, dw_app, if_pos (by rw [List.all_reverse]; exact h)]
theorem trQ_pad {a v z s : LB} (h : trQ v = v) (ha : a.all bl = true) (hz : z.all bl = true) (hs : s = a ++ (v ++ z)) : trQ s = v := by
  subst hs
  rw [trQ, trL_bl ha, ← trQ, ← trSQ, trS, trR_bl hz, ← trS, trSQ, h]
theorem isF_inv {a v : LB} (h : isF a v = true) : tokS a = true ∧ visS v = true ∧ a.length ≤ 64 ∧ v.length ≤ 512 ∧ trQ v = v := by
  unfold isF at h
  simp only [Bool.and_eq_true, decide_eq_true_eq] at h
  exact ⟨h.1, h.2.1, h.2.2.1, h.2.2.2.1, h.2.2.2.2⟩
theorem tok_pos {a : LB} (h : tokS a = true) : 1 ≤ a.length := by
  unfold tokS at h; simp only [Bool.and_eq_true, decide_eq_true_eq] at h; omega
theorem idx_tok {a r : LB} (h : tokS a = true) : idxB (a ++ ([u8 58] ++ r)) 58 = (a.length : Int) := by
  have h1 : a.all tkb = true := by unfold tokS at h; rw [Bool.and_eq_true] at h; exact h.1
  clear h
  have h58 : tkb 58 = false := by decide
  have e58 : u8 58 = 58 := rfl
  unfold idxB
  rw [e58]
  induction a with
  | nil => rfl
  | cons b l ih =>
    rw [List.all_cons, Bool.and_eq_true] at h1
    have hb : (b == (58 : UInt8)) = false := by
      rw [beq_eq_false_iff_ne]; intro e; rw [e, h58] at h1; cases h1.1
    have h2 := ih h1.2
    rw [List.cons_append, Lib.indexByte, hb, h2]
    have : ¬ ((l.length : Int) == -1) = true := by rw [beq_iff_eq]; omega
    simp only [Bool.false_eq_true, if_false, this, List.length_cons]; omega
theorem dropS_snoc {nm v a : LB} {z : List (LB × LB)} (e : a = nm) : dropS nm (z ++ [(a, v)]) = dropS nm z := by
  subst e; rw [dropS, List.filter_append, List.filter_cons]; simp [dropS]
theorem dropS_mem {nm : LB} {z : List (LB × LB)} {q : LB × LB} (h : q ∈ dropS nm z) : q ∈ z := (List.mem_filter.1 h).1
theorem getS_drop (nm : LB) (z : List (LB × LB)) : getS nm (dropS nm z) = [] := by
  rw [getS, List.map_eq_nil_iff, List.filter_eq_nil_iff]
  intro q hq
  have := (List.mem_filter.1 hq).2
  simpa using this
theorem dg_len (nm : LB) (z : List (LB × LB)) : (dropS nm z).length + (getS nm z).length = z.length := by
  induction z with
  | nil => rfl
  | cons a z ih =>
    unfold dropS getS at ih ⊢
    rw [List.length_map] at ih ⊢
    rw [List.filter_cons, List.filter_cons]
    cases h : (lowS a.1 == lowS nm) <;> simp only [h, Bool.not_true, Bool.not_false, if_true, if_false, Bool.false_eq_true, List.length_cons] <;> omega
noncomputable def bodyWa : Code := loopNo (Tryd.f3.body.getD .skip) 0
theorem keyWa : oneKey (loopsOf (Tryd.f3.body.getD .skip)) 8 0 0 = true := by kernel_rfl
def keepWa : List Nat := [0, 1, 3, 4, 8, 9, 11]
def epWa_0 : LA := [(2, .x 0), (10, .x 1), (12, .x 2)]
def hpWa_0 : LE := []
def nuWa_0 (be i : Int) : List Value := [.int .u8 (be), St' (List.replicate (Int.toNat (i)) (u8 32)), .int .i64 (i), .int .u8 (be % 5), .int .i64 ((be % 5)), St' ((List.replicate (Int.toNat (i)) (u8 32)) ++ [u8 32]), .int .i64 (i + 1), .int .u8 (be % 5), .int .i64 ((be % 5))]
def roWa_0 (be i : Int) : List Value := []
def epWa (st : Nat × Int) : LA := epWa_0
def hpWa (st : Nat × Int) : LE := hpWa_0
def nuWa (be : Int) (st : Nat × Int) : List Value := nuWa_0 be (st.2)
def roWa (be : Int) (st : Nat × Int) : List Value := roWa_0 be (st.2)
theorem onWa (be : Int) (st : Nat × Int) : ∀ j, (nuL (nuWa be st) j).oneCell' = true := by
  intro j
  unfold nuWa
  exact nuL_one (l := nuWa_0 be (st.2)) rfl j
theorem ebWa (st : Nat × Int) : (lfB (epWa st) && lfC keepWa) = true := by
  unfold epWa
  rfl
noncomputable def DWa (be : Int) (st : Nat × Int) (X : Nat → Value) : Cx := cx (nuX (nuWa be st) (rX (roWa be st) X)) (nuX_one (onWa be st)) 0 laidE laidE_stab
def InvWa (be : Int) (st : Nat × Int) : Prop := (0 ≤ (st.2)) ∧ ((st.2) ≤ be % 5) ∧ (0 ≤ be) ∧ (be ≤ 255) ∧ ((st.1) < 1)
abbrev CjWa (be : Int) (tag : Nat) (i : Int) : Prop := (0 ≤ i) ∧ (i ≤ be % 5) ∧ (0 ≤ be) ∧ (be ≤ 255) ∧ (tag < 1)
theorem mkIWa (be : Int) (tag : Nat) (i : Int) (h : CjWa be tag i) : InvWa be (tag, i) := h
theorem unIWa (be : Int) (tag : Nat) (i : Int) (h : InvWa be (tag, i)) : (0 ≤ i) ∧ (i ≤ be % 5) ∧ (0 ≤ be) ∧ (be ≤ 255) ∧ (tag < 1) := h
def muWa (be : Int) (st : Nat × Int) : Nat := ((be % 5) - (st.2)).toNat
abbrev RHWa (be : Int) (E' : Cx) (ex' : Ex) (epx' : LA) (hpx' : LE) (st : Nat × Int) (X : Nat → Value) : Prop := RoundH E' bodyWa keepWa 121 ex' 4 24 24 24 epWa hpWa epx' hpx' (InvWa be) (muWa be) (DWa be) st X
noncomputable abbrev RNWa_0 (h : LK) (x : Ex) (th : LA) (sg : List (Nat × Nat)) (m : Nat) (ep : LA) (hp : LE) : Bool := okRdH (code (tbl h) 900 [] bodyWa (envOf (headOf epWa_0 keepWa) 121) ⟨lhSet hpWa_0 .leaf, 24, 0, 0⟩) x keepWa 121 24 th sg 24 m ep hp
theorem stWa_0 (be i : Int) {X : Nat → Value} {h : LK} (y : Nat × Int) {th : LA} {sg : List (Nat × Nat)} (ho : ∀ a' r', (a', r') ∈ h → HOk (cx (nuX (nuWa_0 be i) (rX (roWa_0 be i) X)) (nuX_one (nuL_one (l := nuWa_0 be i) rfl)) 0 laidE laidE_stab) a' r') (hy : InvWa be y) (lt : muWa be y < muWa be (0, i)) (ht : ThOk (cx (nuX (nuWa_0 be i) (rX (roWa_0 be i) X)) (nuX_one (nuL_one (l := nuWa_0 be i) rfl)) 0 laidE laidE_stab) (DWa be y X) th) (run : RNWa_0 h .normal th sg 24 (epWa y) (hpWa y) = true) : RHWa be E' x' e' h' (0, i) X :=
  RoundH.next (tb := tbl h) (L := []) (f := 900) y ((tabkOk _ _).hyps ho) (LpOk.nil _) rfl hy lt ht run
theorem lvWa_0 (be i : Int) {X : Nat → Value} {h : LK} {th : LA} {sg : List (Nat × Nat)} (hne : exB x' .normal = false) (ho : ∀ a' r', (a', r') ∈ h → HOk (cx (nuX (nuWa_0 be i) (rX (roWa_0 be i) X)) (nuX_one (nuL_one (l := nuWa_0 be i) rfl)) 0 laidE laidE_stab) a' r') (ht : ThOk (cx (nuX (nuWa_0 be i) (rX (roWa_0 be i) X)) (nuX_one (nuL_one (l := nuWa_0 be i) rfl)) 0 laidE laidE_stab) E' th) (run : RNWa_0 h x' th sg 24 e' h' = true) : RHWa be E' x' e' h' (0, i) X :=
  RoundH.leave (tb := tbl h) (L := []) (f := 900) ((tabkOk _ _).hyps ho) (LpOk.nil _) rfl hne ht run
def hyWa_p0 : LK := [(.bin .rem (.x 0) (.i .u8 (.ofNat 5)), .x 3), (.conv 3 (.x 3), .x 4), (.bin .lss (.x 2) (.x 4), .b true), (.bin .add (.x 1) (.s 1 32), .x 5), (.bin .add (.x 2) (.i .i64 (.ofNat 1)), .x 6)]
theorem runWa_p0 : RNWa_0 hyWa_p0 .normal [(0, .x 0), (1, .x 5), (2, .x 6)] [] 24 epWa_0 hpWa_0 = true := by kernel_rfl
theorem nxWa_p0 (be : Int) (i : Int) (X : Nat → Value) (hI : InvWa be (0, i)) (h0 : i < (be % 5)) : RHWa be E' x' e' h' (0, i) X := by
  obtain ⟨i0, i1, i2, i3, it⟩ := unIWa be 0 i hI
  refine stWa_0 be i (h := hyWa_p0) (0, (i + 1)) ?_ (mkIWa be 0 (i + 1) ⟨by omega, by omega, i2, i3, by omega⟩) (by show ((be % 5) - (i + 1)).toNat < ((be % 5) - i).toNat; omega) (thXv (v := .int .u8 (be)) rfl rfl (thXe (v := St' ((List.replicate (Int.toNat (i)) (u8 32)) ++ [u8 32])) (u := St' (List.replicate (Int.toNat ((i + 1))) (u8 32))) rfl rfl (congrArg (fun l => St' l) (rep_snoc (by omega))) (thXi (b := ((i + 1))) rfl rfl (by omega) (thNil)))) runWa_p0
  unfold hyWa_p0
  exact hc (kRem (isX rfl) (isZ (m := 5) rfl) (denX rfl) (by omega) (by omega) rfl) <|
   hc (kConvF (isX rfl) tu3 (denX rfl) (fI64 (by omega) (by omega))) <|
   hc (ltT rfl rfl (by omega)) <|
   hc (kCat (isX rfl) (isSx (l := [u8 32]) 1 32 rfl) (denX rfl) (by first | rfl | (simp; done)) (by first | omega | (simp <;> omega))) <|
   hc (adC rfl rfl (by omega)) <|
   hnil
def hyWa_p1 : LK := [(.bin .rem (.x 0) (.i .u8 (.ofNat 5)), .x 7), (.conv 3 (.x 7), .x 8), (.bin .lss (.x 2) (.x 8), .b false)]
theorem runWa_p1 : RNWa_0 hyWa_p1 (.exit 0) [(0, .x 1)] [] 24 [(10, .x 0)] [] = true := by kernel_rfl
def nuEWa_0 (be : Int) : List Value := [St' (List.replicate (Int.toNat (be % 5)) (u8 32))]
def roEWa_0 (be : Int) : List Value := []
noncomputable def EWa_0 (be : Int) : Cx := cx (nuX (nuEWa_0 be) (rX (roEWa_0 be) (fun _ => .bool true))) (nuX_one (nuL_one (l := nuEWa_0 be) rfl)) 0 laidE laidE_stab
theorem roundsWa_0 (be : Int) (st : Nat × Int) (X : Nat → Value) (hI : InvWa be st) : RHWa be (EWa_0 be) (.exit 0) [(10, .x 0)] [] st X := by
  obtain ⟨tag, i⟩ := st
  have hI0 := hI
  obtain ⟨i0, i1, i2, i3, it⟩ := unIWa be tag i hI
  obtain rfl : tag = 0 := by omega
  skip
  by_cases h0 : i < (be % 5)
  · exact nxWa_p0 be i X hI0 h0
  · skip
    refine lvWa_0 be i (h := hyWa_p1) rfl ?_ (thXe (v := St' (List.replicate (Int.toNat (i)) (u8 32))) (u := St' (List.replicate (Int.toNat (be % 5)) (u8 32))) rfl rfl (congrArg (fun l => St' l) (by rw [show i = be % 5 by omega])) (thNil)) runWa_p1
    unfold hyWa_p1
    exact hc (kRem (isX rfl) (isZ (m := 5) rfl) (denX rfl) (by omega) (by omega) rfl) <|
     hc (kConvF (isX rfl) tu3 (denX rfl) (fI64 (by omega) (by omega))) <|
     hc (ltF rfl rfl (by omega)) <|
     hnil
theorem lfOkWa_0 {l : LF} {h : LH} (be : Int) (st : Nat × Int) (hI : InvWa be st) (hl : l.hp = some h) (hs : lfSame l h 121 keepWa (.exit 0) 4 24 24 = true) {th0 : LA} {sg0 : List (Nat × Nat)} (hth0 : ∀ X, ThOk (cx nu one 0 laidE laidE_stab) (DWa be st X) th0) (h0 : startOk l h 121 24 24 th0 sg0 (epWa st) (hpWa st) = true) {thx : LA} (hthx : ThOk (EWa_0 be) (cx nu one 0 laidE laidE_stab) thx) (hx : exitOk l h 121 24 24 thx [(10, .x 0)] [] = true) : LfOk (cx nu one 0 laidE laidE_stab) bodyWa l :=
  lfOkX (E := EWa_0 be) (InvWa be) (muWa be) (DWa be) (fun _ _ => rfl) (fun _ _ => rfl) (fun _ _ => rfl) (fun st X t ht => nuX_keep.trans (rX_keep ((by decide : ∀ t, t ∈ keepWa → t < 1000000) t ht))) rfl rfl rfl hl hs ebWa rfl rfl st hI hth0 h0 hthx hx (roundsWa_0 be)
noncomputable def bodyWb : Code := loopNo (Tryd.f3.body.getD .skip) 1
theorem keyWb : oneKey (loopsOf (Tryd.f3.body.getD .skip)) 12 1 0 = true := by kernel_rfl
def keepWb : List Nat := [0, 1, 4, 8, 9, 10]
def epWb_0 : LA := [(3, .x 0), (11, .x 1), (13, .x 2)]
def hpWb_0 : LE := []
def nuWb_0 (bh i : Int) : List Value := [.int .u8 (bh), St' (List.replicate (Int.toNat (i)) (u8 9)), .int .i64 (i), .int .u8 (bh % 5), .int .i64 ((bh % 5)), St' ((List.replicate (Int.toNat (i)) (u8 9)) ++ [u8 9]), .int .i64 (i + 1), .int .u8 (bh % 5), .int .i64 ((bh % 5))]
def roWb_0 (bh i : Int) : List Value := []
def epWb (st : Nat × Int) : LA := epWb_0
def hpWb (st : Nat × Int) : LE := hpWb_0
def nuWb (bh : Int) (st : Nat × Int) : List Value := nuWb_0 bh (st.2)
def roWb (bh : Int) (st : Nat × Int) : List Value := roWb_0 bh (st.2)
theorem onWb (bh : Int) (st : Nat × Int) : ∀ j, (nuL (nuWb bh st) j).oneCell' = true := by
  intro j
  unfold nuWb
  exact nuL_one (l := nuWb_0 bh (st.2)) rfl j
theorem ebWb (st : Nat × Int) : (lfB (epWb st) && lfC keepWb) = true := by
  unfold epWb
  rfl
noncomputable def DWb (bh : Int) (st : Nat × Int) (X : Nat → Value) : Cx := cx (nuX (nuWb bh st) (rX (roWb bh st) X)) (nuX_one (onWb bh st)) 0 laidE laidE_stab
def InvWb (bh : Int) (st : Nat × Int) : Prop := (0 ≤ (st.2)) ∧ ((st.2) ≤ bh % 5) ∧ (0 ≤ bh) ∧ (bh ≤ 255) ∧ ((st.1) < 1)
abbrev CjWb (bh : Int) (tag : Nat) (i : Int) : Prop := (0 ≤ i) ∧ (i ≤ bh % 5) ∧ (0 ≤ bh) ∧ (bh ≤ 255) ∧ (tag < 1)
theorem mkIWb (bh : Int) (tag : Nat) (i : Int) (h : CjWb bh tag i) : InvWb bh (tag, i) := h
theorem unIWb (bh : Int) (tag : Nat) (i : Int) (h : InvWb bh (tag, i)) : (0 ≤ i) ∧ (i ≤ bh % 5) ∧ (0 ≤ bh) ∧ (bh ≤ 255) ∧ (tag < 1) := h
def muWb (bh : Int) (st : Nat × Int) : Nat := ((bh % 5) - (st.2)).toNat
abbrev RHWb (bh : Int) (E' : Cx) (ex' : Ex) (epx' : LA) (hpx' : LE) (st : Nat × Int) (X : Nat → Value) : Prop := RoundH E' bodyWb keepWb 121 ex' 4 44 44 44 epWb hpWb epx' hpx' (InvWb bh) (muWb bh) (DWb bh) st X
noncomputable abbrev RNWb_0 (h : LK) (x : Ex) (th : LA) (sg : List (Nat × Nat)) (m : Nat) (ep : LA) (hp : LE) : Bool := okRdH (code (tbl h) 900 [] bodyWb (envOf (headOf epWb_0 keepWb) 121) ⟨lhSet hpWb_0 .leaf, 44, 0, 0⟩) x keepWb 121 44 th sg 44 m ep hp
theorem stWb_0 (bh i : Int) {X : Nat → Value} {h : LK} (y : Nat × Int) {th : LA} {sg : List (Nat × Nat)} (ho : ∀ a' r', (a', r') ∈ h → HOk (cx (nuX (nuWb_0 bh i) (rX (roWb_0 bh i) X)) (nuX_one (nuL_one (l := nuWb_0 bh i) rfl)) 0 laidE laidE_stab) a' r') (hy : InvWb bh y) (lt : muWb bh y < muWb bh (0, i)) (ht : ThOk (cx (nuX (nuWb_0 bh i) (rX (roWb_0 bh i) X)) (nuX_one (nuL_one (l := nuWb_0 bh i) rfl)) 0 laidE laidE_stab) (DWb bh y X) th) (run : RNWb_0 h .normal th sg 44 (epWb y) (hpWb y) = true) : RHWb bh E' x' e' h' (0, i) X :=
  RoundH.next (tb := tbl h) (L := []) (f := 900) y ((tabkOk _ _).hyps ho) (LpOk.nil _) rfl hy lt ht run
theorem lvWb_0 (bh i : Int) {X : Nat → Value} {h : LK} {th : LA} {sg : List (Nat × Nat)} (hne : exB x' .normal = false) (ho : ∀ a' r', (a', r') ∈ h → HOk (cx (nuX (nuWb_0 bh i) (rX (roWb_0 bh i) X)) (nuX_one (nuL_one (l := nuWb_0 bh i) rfl)) 0 laidE laidE_stab) a' r') (ht : ThOk (cx (nuX (nuWb_0 bh i) (rX (roWb_0 bh i) X)) (nuX_one (nuL_one (l := nuWb_0 bh i) rfl)) 0 laidE laidE_stab) E' th) (run : RNWb_0 h x' th sg 44 e' h' = true) : RHWb bh E' x' e' h' (0, i) X :=
  RoundH.leave (tb := tbl h) (L := []) (f := 900) ((tabkOk _ _).hyps ho) (LpOk.nil _) rfl hne ht run
def hyWb_p0 : LK := [(.bin .rem (.x 0) (.i .u8 (.ofNat 5)), .x 3), (.conv 3 (.x 3), .x 4), (.bin .lss (.x 2) (.x 4), .b true), (.bin .add (.x 1) (.s 1 9), .x 5), (.bin .add (.x 2) (.i .i64 (.ofNat 1)), .x 6)]
theorem runWb_p0 : RNWb_0 hyWb_p0 .normal [(0, .x 0), (1, .x 5), (2, .x 6)] [] 44 epWb_0 hpWb_0 = true := by kernel_rfl
theorem nxWb_p0 (bh : Int) (i : Int) (X : Nat → Value) (hI : InvWb bh (0, i)) (h0 : i < (bh % 5)) : RHWb bh E' x' e' h' (0, i) X := by
  obtain ⟨i0, i1, i2, i3, it⟩ := unIWb bh 0 i hI
  refine stWb_0 bh i (h := hyWb_p0) (0, (i + 1)) ?_ (mkIWb bh 0 (i + 1) ⟨by omega, by omega, i2, i3, by omega⟩) (by show ((bh % 5) - (i + 1)).toNat < ((bh % 5) - i).toNat; omega) (thXv (v := .int .u8 (bh)) rfl rfl (thXe (v := St' ((List.replicate (Int.toNat (i)) (u8 9)) ++ [u8 9])) (u := St' (List.replicate (Int.toNat ((i + 1))) (u8 9))) rfl rfl (congrArg (fun l => St' l) (rep_snoc (by omega))) (thXi (b := ((i + 1))) rfl rfl (by omega) (thNil)))) runWb_p0
  unfold hyWb_p0
  exact hc (kRem (isX rfl) (isZ (m := 5) rfl) (denX rfl) (by omega) (by omega) rfl) <|
   hc (kConvF (isX rfl) tu3 (denX rfl) (fI64 (by omega) (by omega))) <|
   hc (ltT rfl rfl (by omega)) <|
   hc (kCat (isX rfl) (isSx (l := [u8 9]) 1 9 rfl) (denX rfl) (by first | rfl | (simp; done)) (by first | omega | (simp <;> omega))) <|
   hc (adC rfl rfl (by omega)) <|
   hnil
def hyWb_p1 : LK := [(.bin .rem (.x 0) (.i .u8 (.ofNat 5)), .x 7), (.conv 3 (.x 7), .x 8), (.bin .lss (.x 2) (.x 8), .b false)]
theorem runWb_p1 : RNWb_0 hyWb_p1 (.exit 2) [(0, .x 1)] [] 44 [(11, .x 0)] [] = true := by kernel_rfl
def nuEWb_0 (bh : Int) : List Value := [St' (List.replicate (Int.toNat (bh % 5)) (u8 9))]
def roEWb_0 (bh : Int) : List Value := []
noncomputable def EWb_0 (bh : Int) : Cx := cx (nuX (nuEWb_0 bh) (rX (roEWb_0 bh) (fun _ => .bool true))) (nuX_one (nuL_one (l := nuEWb_0 bh) rfl)) 0 laidE laidE_stab
theorem roundsWb_0 (bh : Int) (st : Nat × Int) (X : Nat → Value) (hI : InvWb bh st) : RHWb bh (EWb_0 bh) (.exit 2) [(11, .x 0)] [] st X := by
  obtain ⟨tag, i⟩ := st
  have hI0 := hI
  obtain ⟨i0, i1, i2, i3, it⟩ := unIWb bh tag i hI
  obtain rfl : tag = 0 := by omega
  skip
  by_cases h0 : i < (bh % 5)
  · exact nxWb_p0 bh i X hI0 h0
  · skip
    refine lvWb_0 bh i (h := hyWb_p1) rfl ?_ (thXe (v := St' (List.replicate (Int.toNat (i)) (u8 9))) (u := St' (List.replicate (Int.toNat (bh % 5)) (u8 9))) rfl rfl (congrArg (fun l => St' l) (by rw [show i = bh % 5 by omega])) (thNil)) runWb_p1
    unfold hyWb_p1
    exact hc (kRem (isX rfl) (isZ (m := 5) rfl) (denX rfl) (by omega) (by omega) rfl) <|
     hc (kConvF (isX rfl) tu3 (denX rfl) (fI64 (by omega) (by omega))) <|
     hc (ltF rfl rfl (by omega)) <|
     hnil
theorem lfOkWb_0 {l : LF} {h : LH} (bh : Int) (st : Nat × Int) (hI : InvWb bh st) (hl : l.hp = some h) (hs : lfSame l h 121 keepWb (.exit 2) 4 44 44 = true) {th0 : LA} {sg0 : List (Nat × Nat)} (hth0 : ∀ X, ThOk (cx nu one 0 laidE laidE_stab) (DWb bh st X) th0) (h0 : startOk l h 121 44 44 th0 sg0 (epWb st) (hpWb st) = true) {thx : LA} (hthx : ThOk (EWb_0 bh) (cx nu one 0 laidE laidE_stab) thx) (hx : exitOk l h 121 44 44 thx [(11, .x 0)] [] = true) : LfOk (cx nu one 0 laidE laidE_stab) bodyWb l :=
  lfOkX (E := EWb_0 bh) (InvWb bh) (muWb bh) (DWb bh) (fun _ _ => rfl) (fun _ _ => rfl) (fun _ _ => rfl) (fun st X t ht => nuX_keep.trans (rX_keep ((by decide : ∀ t, t ∈ keepWb → t < 1000000) t ht))) rfl rfl rfl hl hs ebWb rfl rfl st hI hth0 h0 hthx hx (roundsWb_0 bh)
noncomputable def bodyNlG0 : Code := loopNo (Tryd.f10.body.getD .skip) 0
theorem keyNlG0 : oneKey (loopsOf (Tryd.f10.body.getD .skip)) 3 0 0 = true := by kernel_rfl
def keepNlG0 : List Nat := []
def epNlG0_0 : LA := [(5, .nils), (8, .nils), (9, .i .i64 (.ofNat 0)), (10, .i .i64 (.ofNat 0))]
def hpNlG0_0 : LE := []
def nuNlG0_0 (u : Nat) : List Value := []
def roNlG0_0 (u : Nat) : List Value := []
def epNlG0 (st : Nat × Nat) : LA := epNlG0_0
def hpNlG0 (st : Nat × Nat) : LE := hpNlG0_0
def nuNlG0 (st : Nat × Nat) : List Value := nuNlG0_0 (st.2)
def roNlG0 (st : Nat × Nat) : List Value := roNlG0_0 (st.2)
theorem onNlG0 (st : Nat × Nat) : ∀ j, (nuL (nuNlG0 st) j).oneCell' = true := by
  intro j
  unfold nuNlG0
  exact nuL_one (l := nuNlG0_0 (st.2)) rfl j
theorem ebNlG0 (st : Nat × Nat) : (lfB (epNlG0 st) && lfC keepNlG0) = true := by
  unfold epNlG0
  rfl
noncomputable def DNlG0 (st : Nat × Nat) (X : Nat → Value) : Cx := cx (nuX (nuNlG0 st) (rX (roNlG0 st) X)) (nuX_one (onNlG0 st)) 0 laidE laidE_stab
def InvNlG0 (st : Nat × Nat) : Prop := (True) ∧ ((st.1) < 1)
abbrev CjNlG0 (tag : Nat) (u : Nat) : Prop := (True) ∧ (tag < 1)
theorem mkINlG0 (tag : Nat) (u : Nat) (h : CjNlG0 tag u) : InvNlG0 (tag, u) := h
theorem unINlG0 (tag : Nat) (u : Nat) (h : InvNlG0 (tag, u)) : (True) ∧ (tag < 1) := h
def muNlG0 (st : Nat × Nat) : Nat := 0
abbrev RHNlG0 (E' : Cx) (ex' : Ex) (epx' : LA) (hpx' : LE) (st : Nat × Nat) (X : Nat → Value) : Prop := RoundH E' bodyNlG0 keepNlG0 25 ex' 4 55 55 55 epNlG0 hpNlG0 epx' hpx' (InvNlG0) (muNlG0) (DNlG0) st X
noncomputable abbrev RNNlG0_0 (h : LK) (x : Ex) (th : LA) (sg : List (Nat × Nat)) (m : Nat) (ep : LA) (hp : LE) : Bool := okRdH (code (tbl h) 900 [] bodyNlG0 (envOf (headOf epNlG0_0 keepNlG0) 25) ⟨lhSet hpNlG0_0 .leaf, 55, 0, 0⟩) x keepNlG0 25 55 th sg 55 m ep hp
theorem stNlG0_0 (u : Nat) {X : Nat → Value} {h : LK} (y : Nat × Nat) {th : LA} {sg : List (Nat × Nat)} (ho : ∀ a' r', (a', r') ∈ h → HOk (cx (nuX (nuNlG0_0 u) (rX (roNlG0_0 u) X)) (nuX_one (nuL_one (l := nuNlG0_0 u) rfl)) 0 laidE laidE_stab) a' r') (hy : InvNlG0 y) (lt : muNlG0 y < muNlG0 (0, u)) (ht : ThOk (cx (nuX (nuNlG0_0 u) (rX (roNlG0_0 u) X)) (nuX_one (nuL_one (l := nuNlG0_0 u) rfl)) 0 laidE laidE_stab) (DNlG0 y X) th) (run : RNNlG0_0 h .normal th sg 55 (epNlG0 y) (hpNlG0 y) = true) : RHNlG0 E' x' e' h' (0, u) X :=
  RoundH.next (tb := tbl h) (L := []) (f := 900) y ((tabkOk _ _).hyps ho) (LpOk.nil _) rfl hy lt ht run
theorem lvNlG0_0 (u : Nat) {X : Nat → Value} {h : LK} {th : LA} {sg : List (Nat × Nat)} (hne : exB x' .normal = false) (ho : ∀ a' r', (a', r') ∈ h → HOk (cx (nuX (nuNlG0_0 u) (rX (roNlG0_0 u) X)) (nuX_one (nuL_one (l := nuNlG0_0 u) rfl)) 0 laidE laidE_stab) a' r') (ht : ThOk (cx (nuX (nuNlG0_0 u) (rX (roNlG0_0 u) X)) (nuX_one (nuL_one (l := nuNlG0_0 u) rfl)) 0 laidE laidE_stab) E' th) (run : RNNlG0_0 h x' th sg 55 e' h' = true) : RHNlG0 E' x' e' h' (0, u) X :=
  RoundH.leave (tb := tbl h) (L := []) (f := 900) ((tabkOk _ _).hyps ho) (LpOk.nil _) rfl hne ht run
def hyNlG0_p0 : LK := []
theorem runNlG0_p0 : RNNlG0_0 hyNlG0_p0 (.exit 0) [] [] 55 [(5, .nils)] [] = true := by kernel_rfl
def nuENlG0_0 : List Value := []
def roENlG0_0 : List Value := []
noncomputable def ENlG0_0 : Cx := cx (nuX (nuENlG0_0) (rX (roENlG0_0) (fun _ => .bool true))) (nuX_one (nuL_one (l := nuENlG0_0) rfl)) 0 laidE laidE_stab
theorem roundsNlG0_0 (st : Nat × Nat) (X : Nat → Value) (hI : InvNlG0 st) : RHNlG0 (ENlG0_0) (.exit 0) [(5, .nils)] [] st X := by
  obtain ⟨tag, u⟩ := st
  have hI0 := hI
  obtain ⟨i0, it⟩ := unINlG0 tag u hI
  obtain rfl : tag = 0 := by omega
  skip
  skip
  refine lvNlG0_0 u (h := hyNlG0_p0) rfl ?_ (thNil) runNlG0_p0
  unfold hyNlG0_p0
  exact hnil
theorem lfOkNlG0_0 {l : LF} {h : LH} (st : Nat × Nat) (hI : InvNlG0 st) (hl : l.hp = some h) (hs : lfSame l h 25 keepNlG0 (.exit 0) 4 55 55 = true) {th0 : LA} {sg0 : List (Nat × Nat)} (hth0 : ∀ X, ThOk (cx nu one 0 laidE laidE_stab) (DNlG0 st X) th0) (h0 : startOk l h 25 55 55 th0 sg0 (epNlG0 st) (hpNlG0 st) = true) {thx : LA} (hthx : ThOk (ENlG0_0) (cx nu one 0 laidE laidE_stab) thx) (hx : exitOk l h 25 55 55 thx [(5, .nils)] [] = true) : LfOk (cx nu one 0 laidE laidE_stab) bodyNlG0 l :=
  lfOkX (E := ENlG0_0) (InvNlG0) (muNlG0) (DNlG0) (fun _ _ => rfl) (fun _ _ => rfl) (fun _ _ => rfl) (fun st X t ht => nuX_keep.trans (rX_keep ((by decide : ∀ t, t ∈ keepNlG0 → t < 1000000) t ht))) rfl rfl rfl hl hs ebNlG0 rfl rfl st hI hth0 h0 hthx hx (roundsNlG0_0)
noncomputable def bodyNlG1 : Code := loopNo (Tryd.f10.body.getD .skip) 0
theorem keyNlG1 : oneKey (loopsOf (Tryd.f10.body.getD .skip)) 3 0 0 = true := by kernel_rfl
def keepNlG1 : List Nat := []
def epNlG1_0 : LA := [(5, .nils), (8, .nils), (9, .i .i64 (.ofNat 0)), (10, .i .i64 (.ofNat 0))]
def hpNlG1_0 : LE := []
def nuNlG1_0 (u : Nat) : List Value := []
def roNlG1_0 (u : Nat) : List Value := []
def epNlG1 (st : Nat × Nat) : LA := epNlG1_0
def hpNlG1 (st : Nat × Nat) : LE := hpNlG1_0
def nuNlG1 (st : Nat × Nat) : List Value := nuNlG1_0 (st.2)
def roNlG1 (st : Nat × Nat) : List Value := roNlG1_0 (st.2)
theorem onNlG1 (st : Nat × Nat) : ∀ j, (nuL (nuNlG1 st) j).oneCell' = true := by
  intro j
  unfold nuNlG1
  exact nuL_one (l := nuNlG1_0 (st.2)) rfl j
theorem ebNlG1 (st : Nat × Nat) : (lfB (epNlG1 st) && lfC keepNlG1) = true := by
  unfold epNlG1
  rfl
noncomputable def DNlG1 (st : Nat × Nat) (X : Nat → Value) : Cx := cx (nuX (nuNlG1 st) (rX (roNlG1 st) X)) (nuX_one (onNlG1 st)) 0 laidE laidE_stab
def InvNlG1 (st : Nat × Nat) : Prop := (True) ∧ ((st.1) < 1)
abbrev CjNlG1 (tag : Nat) (u : Nat) : Prop := (True) ∧ (tag < 1)
theorem mkINlG1 (tag : Nat) (u : Nat) (h : CjNlG1 tag u) : InvNlG1 (tag, u) := h
theorem unINlG1 (tag : Nat) (u : Nat) (h : InvNlG1 (tag, u)) : (True) ∧ (tag < 1) := h
def muNlG1 (st : Nat × Nat) : Nat := 0
abbrev RHNlG1 (E' : Cx) (ex' : Ex) (epx' : LA) (hpx' : LE) (st : Nat × Nat) (X : Nat → Value) : Prop := RoundH E' bodyNlG1 keepNlG1 25 ex' 4 105 105 105 epNlG1 hpNlG1 epx' hpx' (InvNlG1) (muNlG1) (DNlG1) st X
noncomputable abbrev RNNlG1_0 (h : LK) (x : Ex) (th : LA) (sg : List (Nat × Nat)) (m : Nat) (ep : LA) (hp : LE) : Bool := okRdH (code (tbl h) 900 [] bodyNlG1 (envOf (headOf epNlG1_0 keepNlG1) 25) ⟨lhSet hpNlG1_0 .leaf, 105, 0, 0⟩) x keepNlG1 25 105 th sg 105 m ep hp
theorem stNlG1_0 (u : Nat) {X : Nat → Value} {h : LK} (y : Nat × Nat) {th : LA} {sg : List (Nat × Nat)} (ho : ∀ a' r', (a', r') ∈ h → HOk (cx (nuX (nuNlG1_0 u) (rX (roNlG1_0 u) X)) (nuX_one (nuL_one (l := nuNlG1_0 u) rfl)) 0 laidE laidE_stab) a' r') (hy : InvNlG1 y) (lt : muNlG1 y < muNlG1 (0, u)) (ht : ThOk (cx (nuX (nuNlG1_0 u) (rX (roNlG1_0 u) X)) (nuX_one (nuL_one (l := nuNlG1_0 u) rfl)) 0 laidE laidE_stab) (DNlG1 y X) th) (run : RNNlG1_0 h .normal th sg 105 (epNlG1 y) (hpNlG1 y) = true) : RHNlG1 E' x' e' h' (0, u) X :=
  RoundH.next (tb := tbl h) (L := []) (f := 900) y ((tabkOk _ _).hyps ho) (LpOk.nil _) rfl hy lt ht run
theorem lvNlG1_0 (u : Nat) {X : Nat → Value} {h : LK} {th : LA} {sg : List (Nat × Nat)} (hne : exB x' .normal = false) (ho : ∀ a' r', (a', r') ∈ h → HOk (cx (nuX (nuNlG1_0 u) (rX (roNlG1_0 u) X)) (nuX_one (nuL_one (l := nuNlG1_0 u) rfl)) 0 laidE laidE_stab) a' r') (ht : ThOk (cx (nuX (nuNlG1_0 u) (rX (roNlG1_0 u) X)) (nuX_one (nuL_one (l := nuNlG1_0 u) rfl)) 0 laidE laidE_stab) E' th) (run : RNNlG1_0 h x' th sg 105 e' h' = true) : RHNlG1 E' x' e' h' (0, u) X :=
  RoundH.leave (tb := tbl h) (L := []) (f := 900) ((tabkOk _ _).hyps ho) (LpOk.nil _) rfl hne ht run
def hyNlG1_p0 : LK := []
theorem runNlG1_p0 : RNNlG1_0 hyNlG1_p0 (.exit 0) [] [] 105 [(5, .nils)] [] = true := by kernel_rfl
def nuENlG1_0 : List Value := []
def roENlG1_0 : List Value := []
noncomputable def ENlG1_0 : Cx := cx (nuX (nuENlG1_0) (rX (roENlG1_0) (fun _ => .bool true))) (nuX_one (nuL_one (l := nuENlG1_0) rfl)) 0 laidE laidE_stab
theorem roundsNlG1_0 (st : Nat × Nat) (X : Nat → Value) (hI : InvNlG1 st) : RHNlG1 (ENlG1_0) (.exit 0) [(5, .nils)] [] st X := by
  obtain ⟨tag, u⟩ := st
  have hI0 := hI
  obtain ⟨i0, it⟩ := unINlG1 tag u hI
  obtain rfl : tag = 0 := by omega
  skip
  skip
  refine lvNlG1_0 u (h := hyNlG1_p0) rfl ?_ (thNil) runNlG1_p0
  unfold hyNlG1_p0
  exact hnil
theorem lfOkNlG1_0 {l : LF} {h : LH} (st : Nat × Nat) (hI : InvNlG1 st) (hl : l.hp = some h) (hs : lfSame l h 25 keepNlG1 (.exit 0) 4 105 105 = true) {th0 : LA} {sg0 : List (Nat × Nat)} (hth0 : ∀ X, ThOk (cx nu one 0 laidE laidE_stab) (DNlG1 st X) th0) (h0 : startOk l h 25 105 105 th0 sg0 (epNlG1 st) (hpNlG1 st) = true) {thx : LA} (hthx : ThOk (ENlG1_0) (cx nu one 0 laidE laidE_stab) thx) (hx : exitOk l h 25 105 105 thx [(5, .nils)] [] = true) : LfOk (cx nu one 0 laidE laidE_stab) bodyNlG1 l :=
  lfOkX (E := ENlG1_0) (InvNlG1) (muNlG1) (DNlG1) (fun _ _ => rfl) (fun _ _ => rfl) (fun _ _ => rfl) (fun st X t ht => nuX_keep.trans (rX_keep ((by decide : ∀ t, t ∈ keepNlG1 → t < 1000000) t ht))) rfl rfl rfl hl hs ebNlG1 rfl rfl st hI hth0 h0 hthx hx (roundsNlG1_0)
noncomputable def bodyDr0 : Code := loopNo (Tryd.f9.body.getD .skip) 0
theorem keyDr0 : oneKey (loopsOf (Tryd.f9.body.getD .skip)) 3 0 0 = true := by kernel_rfl
def keepDr0 : List Nat := []
def epDr0_0 : LA := [(1, .x 0), (5, .nils), (8, .sr 54), (9, .x 1), (10, .x 2)]
def hpDr0_0 : LE := [(54, .r 2000000 23 2 false)]
def nuDr0_0 (z : List (LB × LB)) (nm : LB) (i : Int) (O : List (LB × LB)) : List Value := [St' nm, .int .i64 ((z.length : Int)), .int .i64 (i), St' ((nthP z (Int.toNat (i))).1), St' ((nthP z (Int.toNat (i))).2), St' (lowS ((nthP z (Int.toNat (i))).1)), St' (lowS nm), .int .i64 (i + 1), St' ((nthP z (Int.toNat (i))).1), St' ((nthP z (Int.toNat (i))).2), St' (lowS ((nthP z (Int.toNat (i))).1)), St' (lowS nm), .int .i64 (i + 1)]
def roDr0_0 (z : List (LB × LB)) (nm : LB) (i : Int) (O : List (LB × LB)) : List Value := [rwG prC z, rwS ([] : List LB), rwS ([] : List LB), rwS ([] : List LB), rwG prC (([] : List (LB × LB)) ++ [((nthP z (Int.toNat (i))).1, (nthP z (Int.toNat (i))).2)])]
def epDr0_1 : LA := [(1, .x 0), (5, .sr 65), (8, .sr 54), (9, .x 1), (10, .x 2)]
def hpDr0_1 : LE := [(54, .r 2000000 23 2 false), (65, .r 2000001 23 2 false)]
def nuDr0_1 (z : List (LB × LB)) (nm : LB) (i : Int) (O : List (LB × LB)) : List Value := [St' nm, .int .i64 ((z.length : Int)), .int .i64 (i), St' ((nthP z (Int.toNat (i))).1), St' ((nthP z (Int.toNat (i))).2), St' (lowS ((nthP z (Int.toNat (i))).1)), St' (lowS nm), .int .i64 (i + 1), St' ((nthP z (Int.toNat (i))).1), St' ((nthP z (Int.toNat (i))).2), St' (lowS ((nthP z (Int.toNat (i))).1)), St' (lowS nm), .int .i64 (i + 1)]
def roDr0_1 (z : List (LB × LB)) (nm : LB) (i : Int) (O : List (LB × LB)) : List Value := [rwG prC z, rwG prC O, rwS ([] : List LB), rwS ([] : List LB), rwS ([] : List LB), rwG prC (O ++ [((nthP z (Int.toNat (i))).1, (nthP z (Int.toNat (i))).2)])]
def epDr0 (st : Nat × Int × List (LB × LB)) : LA := if st.1 = 0 then epDr0_0 else epDr0_1
def hpDr0 (st : Nat × Int × List (LB × LB)) : LE := if st.1 = 0 then hpDr0_0 else hpDr0_1
def nuDr0 (z : List (LB × LB)) (nm : LB) (st : Nat × Int × List (LB × LB)) : List Value := if st.1 = 0 then nuDr0_0 z nm (st.2.1) (st.2.2) else nuDr0_1 z nm (st.2.1) (st.2.2)
def roDr0 (z : List (LB × LB)) (nm : LB) (st : Nat × Int × List (LB × LB)) : List Value := if st.1 = 0 then roDr0_0 z nm (st.2.1) (st.2.2) else roDr0_1 z nm (st.2.1) (st.2.2)
theorem onDr0 (z : List (LB × LB)) (nm : LB) (st : Nat × Int × List (LB × LB)) : ∀ j, (nuL (nuDr0 z nm st) j).oneCell' = true := by
  intro j
  unfold nuDr0
  by_cases g0 : st.1 = 0
  · rw [if_pos g0]; exact nuL_one (l := nuDr0_0 z nm (st.2.1) (st.2.2)) rfl j
  rw [if_neg g0]
  exact nuL_one (l := nuDr0_1 z nm (st.2.1) (st.2.2)) rfl j
theorem ebDr0 (st : Nat × Int × List (LB × LB)) : (lfB (epDr0 st) && lfC keepDr0) = true := by
  unfold epDr0
  by_cases g0 : st.1 = 0
  · rw [if_pos g0]; rfl
  rw [if_neg g0]
  rfl
noncomputable def DDr0 (z : List (LB × LB)) (nm : LB) (st : Nat × Int × List (LB × LB)) (X : Nat → Value) : Cx := cx (nuX (nuDr0 z nm st) (rX (roDr0 z nm st) X)) (nuX_one (onDr0 z nm st)) 0 laidE laidE_stab
def InvDr0 (z : List (LB × LB)) (nm : LB) (st : Nat × Int × List (LB × LB)) : Prop := (0 ≤ (st.2.1)) ∧ ((st.2.1) ≤ (z.length : Int)) ∧ (z.length ≤ 1000) ∧ (∀ q, q ∈ z → prB q) ∧ (nm.length ≤ 140737488351232 ∧ ∀ q, q ∈ z → q.1.length ≤ 140737488351232) ∧ ((st.2.2) = dropS nm (z.take (Int.toNat (st.2.1)))) ∧ ((st.1) = 0 → (st.2.2) = []) ∧ ((st.1) = 1 → 1 ≤ (st.2.2).length) ∧ ((st.1) < 2)
abbrev CjDr0 (z : List (LB × LB)) (nm : LB) (tag : Nat) (i : Int) (O : List (LB × LB)) : Prop := (0 ≤ i) ∧ (i ≤ (z.length : Int)) ∧ (z.length ≤ 1000) ∧ (∀ q, q ∈ z → prB q) ∧ (nm.length ≤ 140737488351232 ∧ ∀ q, q ∈ z → q.1.length ≤ 140737488351232) ∧ (O = dropS nm (z.take (Int.toNat i))) ∧ (tag = 0 → O = []) ∧ (tag = 1 → 1 ≤ O.length) ∧ (tag < 2)
theorem mkIDr0 (z : List (LB × LB)) (nm : LB) (tag : Nat) (i : Int) (O : List (LB × LB)) (h : CjDr0 z nm tag i O) : InvDr0 z nm (tag, i, O) := h
theorem unIDr0 (z : List (LB × LB)) (nm : LB) (tag : Nat) (i : Int) (O : List (LB × LB)) (h : InvDr0 z nm (tag, i, O)) : (0 ≤ i) ∧ (i ≤ (z.length : Int)) ∧ (z.length ≤ 1000) ∧ (∀ q, q ∈ z → prB q) ∧ (nm.length ≤ 140737488351232 ∧ ∀ q, q ∈ z → q.1.length ≤ 140737488351232) ∧ (O = dropS nm (z.take (Int.toNat i))) ∧ (tag = 0 → O = []) ∧ (tag = 1 → 1 ≤ O.length) ∧ (tag < 2) := h
def muDr0 (z : List (LB × LB)) (nm : LB) (st : Nat × Int × List (LB × LB)) : Nat := (z.length - (st.2.1).toNat)
abbrev RHDr0 (z : List (LB × LB)) (nm : LB) (E' : Cx) (ex' : Ex) (epx' : LA) (hpx' : LE) (st : Nat × Int × List (LB × LB)) (X : Nat → Value) : Prop := RoundH E' bodyDr0 keepDr0 25 ex' 4 65 66 105 epDr0 hpDr0 epx' hpx' (InvDr0 z nm) (muDr0 z nm) (DDr0 z nm) st X
noncomputable abbrev RNDr0_0 (h : LK) (x : Ex) (th : LA) (sg : List (Nat × Nat)) (m : Nat) (ep : LA) (hp : LE) : Bool := okRdH (code (tbl h) 3000 [] bodyDr0 (envOf (headOf epDr0_0 keepDr0) 25) ⟨lhSet hpDr0_0 .leaf, 66, 0, 0⟩) x keepDr0 25 105 th sg 65 m ep hp
theorem stDr0_0 (z : List (LB × LB)) (nm : LB) (i : Int) (O : List (LB × LB)) {X : Nat → Value} {h : LK} (y : Nat × Int × List (LB × LB)) {th : LA} {sg : List (Nat × Nat)} (ho : ∀ a' r', (a', r') ∈ h → HOk (cx (nuX (nuDr0_0 z nm i O) (rX (roDr0_0 z nm i O) X)) (nuX_one (nuL_one (l := nuDr0_0 z nm i O) rfl)) 0 laidE laidE_stab) a' r') (hy : InvDr0 z nm y) (lt : muDr0 z nm y < muDr0 z nm (0, i, O)) (ht : ThOk (cx (nuX (nuDr0_0 z nm i O) (rX (roDr0_0 z nm i O) X)) (nuX_one (nuL_one (l := nuDr0_0 z nm i O) rfl)) 0 laidE laidE_stab) (DDr0 z nm y X) th) (run : RNDr0_0 h .normal th sg 66 (epDr0 y) (hpDr0 y) = true) : RHDr0 z nm E' x' e' h' (0, i, O) X :=
  RoundH.next (tb := tbl h) (L := []) (f := 3000) y ((tabkOk _ _).hyps ho) (LpOk.nil _) rfl hy lt ht run
theorem lvDr0_0 (z : List (LB × LB)) (nm : LB) (i : Int) (O : List (LB × LB)) {X : Nat → Value} {h : LK} {th : LA} {sg : List (Nat × Nat)} (hne : exB x' .normal = false) (ho : ∀ a' r', (a', r') ∈ h → HOk (cx (nuX (nuDr0_0 z nm i O) (rX (roDr0_0 z nm i O) X)) (nuX_one (nuL_one (l := nuDr0_0 z nm i O) rfl)) 0 laidE laidE_stab) a' r') (ht : ThOk (cx (nuX (nuDr0_0 z nm i O) (rX (roDr0_0 z nm i O) X)) (nuX_one (nuL_one (l := nuDr0_0 z nm i O) rfl)) 0 laidE laidE_stab) E' th) (run : RNDr0_0 h x' th sg 105 e' h' = true) : RHDr0 z nm E' x' e' h' (0, i, O) X :=
  RoundH.leave (tb := tbl h) (L := []) (f := 3000) ((tabkOk _ _).hyps ho) (LpOk.nil _) rfl hne ht run
noncomputable abbrev RNDr0_1 (h : LK) (x : Ex) (th : LA) (sg : List (Nat × Nat)) (m : Nat) (ep : LA) (hp : LE) : Bool := okRdH (code (tbl h) 3000 [] bodyDr0 (envOf (headOf epDr0_1 keepDr0) 25) ⟨lhSet hpDr0_1 .leaf, 66, 0, 0⟩) x keepDr0 25 105 th sg 65 m ep hp
theorem stDr0_1 (z : List (LB × LB)) (nm : LB) (i : Int) (O : List (LB × LB)) {X : Nat → Value} {h : LK} (y : Nat × Int × List (LB × LB)) {th : LA} {sg : List (Nat × Nat)} (ho : ∀ a' r', (a', r') ∈ h → HOk (cx (nuX (nuDr0_1 z nm i O) (rX (roDr0_1 z nm i O) X)) (nuX_one (nuL_one (l := nuDr0_1 z nm i O) rfl)) 0 laidE laidE_stab) a' r') (hy : InvDr0 z nm y) (lt : muDr0 z nm y < muDr0 z nm (1, i, O)) (ht : ThOk (cx (nuX (nuDr0_1 z nm i O) (rX (roDr0_1 z nm i O) X)) (nuX_one (nuL_one (l := nuDr0_1 z nm i O) rfl)) 0 laidE laidE_stab) (DDr0 z nm y X) th) (run : RNDr0_1 h .normal th sg 66 (epDr0 y) (hpDr0 y) = true) : RHDr0 z nm E' x' e' h' (1, i, O) X :=
  RoundH.next (tb := tbl h) (L := []) (f := 3000) y ((tabkOk _ _).hyps ho) (LpOk.nil _) rfl hy lt ht run
theorem lvDr0_1 (z : List (LB × LB)) (nm : LB) (i : Int) (O : List (LB × LB)) {X : Nat → Value} {h : LK} {th : LA} {sg : List (Nat × Nat)} (hne : exB x' .normal = false) (ho : ∀ a' r', (a', r') ∈ h → HOk (cx (nuX (nuDr0_1 z nm i O) (rX (roDr0_1 z nm i O) X)) (nuX_one (nuL_one (l := nuDr0_1 z nm i O) rfl)) 0 laidE laidE_stab) a' r') (ht : ThOk (cx (nuX (nuDr0_1 z nm i O) (rX (roDr0_1 z nm i O) X)) (nuX_one (nuL_one (l := nuDr0_1 z nm i O) rfl)) 0 laidE laidE_stab) E' th) (run : RNDr0_1 h x' th sg 105 e' h' = true) : RHDr0 z nm E' x' e' h' (1, i, O) X :=
  RoundH.leave (tb := tbl h) (L := []) (f := 3000) ((tabkOk _ _).hyps ho) (LpOk.nil _) rfl hne ht run
def hyDr0_p0 : LK := [(.rn, .x 2000001), (.bin .lss (.x 2) (.x 1), .b true), (.el (.x 2000000) (.x 2) 2 0, .x 3), (.el (.x 2000000) (.x 2) 2 1, .x 4), (.call 43 [.x 3], .x 5), (.call 43 [.x 0], .x 6), (.bin .eql (.x 5) (.x 6), .b true), (.bin .add (.x 2) (.i .i64 (.ofNat 1)), .x 7)]
theorem runDr0_p0 : RNDr0_0 hyDr0_p0 .normal [(0, .x 0), (1, .x 1), (2, .x 7), (2000000, .x 2000000)] [] 66 epDr0_0 hpDr0_0 = true := by kernel_rfl
theorem nxDr0_p0 (z : List (LB × LB)) (nm : LB) (i : Int) (O : List (LB × LB)) (X : Nat → Value) (hI : InvDr0 z nm (0, i, O)) (h0 : i < (z.length : Int)) (h1 : (lowS ((nthP z (Int.toNat (i))).1)) = (lowS nm)) : RHDr0 z nm E' x' e' h' (0, i, O) X := by
  obtain ⟨i0, i1, i2, i3, i4, i5, i6, i7, it⟩ := unIDr0 z nm 0 i O hI
  have hnm := nmAt i4.2 (Int.toNat i)
  have hO := congrArg List.length i5
  have hO2 := dropS_len nm (z.take (Int.toNat i))
  have hO3 : (z.take (Int.toNat i)).length ≤ z.length := by rw [List.length_take]; omega
  have := prAt (l := z) (by assumption) (Int.toNat (i))
  have : (lowS ((nthP z (Int.toNat (i))).1)).length = ((nthP z (Int.toNat (i))).1).length := List.length_map ..
  have : (lowS nm).length = nm.length := List.length_map ..
  refine stDr0_0 z nm i O (h := hyDr0_p0) (0, i + 1, ([] : List (LB × LB))) ?_ (mkIDr0 z nm 0 (i + 1) ([] : List (LB × LB)) ⟨by omega, by omega, i2, i3, i4, by rw [dropS_n (by omega) (by omega) (by assumption)]; exact (i6 (by omega)).symm.trans i5, fun _ => rfl, fun h => by omega, by omega⟩) (by show z.length - (i + 1).toNat < z.length - i.toNat; omega) (thXv (v := St' nm) rfl rfl (thXv (v := .int .i64 ((z.length : Int))) rfl rfl (thXi (b := ((i + 1))) rfl rfl (by omega) (thXv (v := rwG prC z) rfl rfl (thNil))))) runDr0_p0
  unfold hyDr0_p0
  exact hc (kRn (denX rfl)) <|
   hc (ltT rfl rfl (by omega)) <|
   hc (kElG (j := (Int.toNat (i))) (d := ([], [])) prC_len (by decide) (isX rfl) (isX rfl) (denX rfl) (by omega) (by omega) rfl) <|
   hc (kElG (j := (Int.toNat (i))) (d := ([], [])) prC_len (by decide) (isX rfl) (isX rfl) (denX rfl) (by omega) (by omega) rfl) <|
   hc (hokLower (s := (nthP z (Int.toNat (i))).1) (isX rfl) (denX rfl) (by omega) (by omega)) <|
   hc (hokLower (s := nm) (isX rfl) (denX rfl) (by omega) (by omega)) <|
   hc (kEqS (isX rfl) (isX rfl) (by first | exact decide_eq_true rfl | exact decide_eq_true ‹_› | exact decide_eq_false ‹_›)) <|
   hc (adC rfl rfl (by omega)) <|
   hnil
def hyDr0_p1 : LK := [(.rn, .x 2000002), (.bin .lss (.x 2) (.x 1), .b false)]
theorem runDr0_p1 : RNDr0_0 hyDr0_p1 (.exit 0) [(2000000, .x 2000000)] [] 105 [(5, .nils)] [(54, .r 2000000 23 2 false)] = true := by kernel_rfl
def hyDr0_p2 : LK := [(.rn, .x 2000003), (.bin .lss (.x 2) (.x 1), .b true), (.el (.x 2000000) (.x 2) 2 0, .x 8), (.el (.x 2000000) (.x 2) 2 1, .x 9), (.call 43 [.x 8], .x 10), (.call 43 [.x 0], .x 11), (.bin .eql (.x 10) (.x 11), .b false), (.ra (.x 2000003) [.x 8, .x 9], .x 2000004), (.rf (.x 2000004) 2 32, .b true), (.bin .add (.x 2) (.i .i64 (.ofNat 1)), .x 12)]
theorem runDr0_p2 : RNDr0_0 hyDr0_p2 .normal [(0, .x 0), (1, .x 1), (2, .x 12), (2000000, .x 2000000), (2000001, .x 2000004)] [(65, 68)] 66 epDr0_1 hpDr0_1 = true := by kernel_rfl
theorem nxDr0_p2 (z : List (LB × LB)) (nm : LB) (i : Int) (O : List (LB × LB)) (X : Nat → Value) (hI : InvDr0 z nm (0, i, O)) (h0 : i < (z.length : Int)) (h1 : ¬ ((lowS ((nthP z (Int.toNat (i))).1)) = (lowS nm))) : RHDr0 z nm E' x' e' h' (0, i, O) X := by
  obtain ⟨i0, i1, i2, i3, i4, i5, i6, i7, it⟩ := unIDr0 z nm 0 i O hI
  have hnm := nmAt i4.2 (Int.toNat i)
  have hO := congrArg List.length i5
  have hO2 := dropS_len nm (z.take (Int.toNat i))
  have hO3 : (z.take (Int.toNat i)).length ≤ z.length := by rw [List.length_take]; omega
  have := prAt (l := z) (by assumption) (Int.toNat (i))
  have : (lowS ((nthP z (Int.toNat (i))).1)).length = ((nthP z (Int.toNat (i))).1).length := List.length_map ..
  have : (lowS nm).length = nm.length := List.length_map ..
  refine stDr0_0 z nm i O (h := hyDr0_p2) (1, i + 1, (([] : List (LB × LB)) ++ [((nthP z (Int.toNat (i))).1, (nthP z (Int.toNat (i))).2)])) ?_ (mkIDr0 z nm 1 (i + 1) (([] : List (LB × LB)) ++ [((nthP z (Int.toNat (i))).1, (nthP z (Int.toNat (i))).2)]) ⟨by omega, by omega, i2, i3, i4, by rw [dropS_y (by omega) (by omega) (by assumption), ← i5, i6 (by omega)], fun h => by omega, fun _ => by simp, by omega⟩) (by show z.length - (i + 1).toNat < z.length - i.toNat; omega) (thXv (v := St' nm) rfl rfl (thXv (v := .int .i64 ((z.length : Int))) rfl rfl (thXi (b := ((i + 1))) rfl rfl (by omega) (thXv (v := rwG prC z) rfl rfl (thXv (v := rwG prC (([] : List (LB × LB)) ++ [((nthP z (Int.toNat (i))).1, (nthP z (Int.toNat (i))).2)])) rfl rfl (thNil)))))) runDr0_p2
  unfold hyDr0_p2
  exact hc (kRn (denX rfl)) <|
   hc (ltT rfl rfl (by omega)) <|
   hc (kElG (j := (Int.toNat (i))) (d := ([], [])) prC_len (by decide) (isX rfl) (isX rfl) (denX rfl) (by omega) (by omega) rfl) <|
   hc (kElG (j := (Int.toNat (i))) (d := ([], [])) prC_len (by decide) (isX rfl) (isX rfl) (denX rfl) (by omega) (by omega) rfl) <|
   hc (hokLower (s := (nthP z (Int.toNat (i))).1) (isX rfl) (denX rfl) (by omega) (by omega)) <|
   hc (hokLower (s := nm) (isX rfl) (denX rfl) (by omega) (by omega)) <|
   hc (kEqS (isX rfl) (isX rfl) (by first | exact decide_eq_true rfl | exact decide_eq_true ‹_› | exact decide_eq_false ‹_›)) <|
   hc (kRaG (f := prC) (l := ([] : List (LB × LB))) (a := ((nthP z (Int.toNat (i))).1, (nthP z (Int.toNat (i))).2)) (isX rfl) (isL2 (isX rfl) (isX rfl)) (denX rfl)) <|
   hc (kRfG prC_len (isX rfl) (by first | omega | (simp <;> omega)) (by first | omega | (simp <;> omega))) <|
   hc (adC rfl rfl (by omega)) <|
   hnil
def hyDr0_p3 : LK := [(.rn, .x 2000002), (.bin .lss (.x 2) (.x 1), .b true), (.el (.x 2000000) (.x 2) 2 0, .x 3), (.el (.x 2000000) (.x 2) 2 1, .x 4), (.call 43 [.x 3], .x 5), (.call 43 [.x 0], .x 6), (.bin .eql (.x 5) (.x 6), .b true), (.bin .add (.x 2) (.i .i64 (.ofNat 1)), .x 7)]
theorem runDr0_p3 : RNDr0_1 hyDr0_p3 .normal [(0, .x 0), (1, .x 1), (2, .x 7), (2000000, .x 2000000), (2000001, .x 2000001)] [(65, 65)] 66 epDr0_1 hpDr0_1 = true := by kernel_rfl
theorem nxDr0_p3 (z : List (LB × LB)) (nm : LB) (i : Int) (O : List (LB × LB)) (X : Nat → Value) (hI : InvDr0 z nm (1, i, O)) (h0 : i < (z.length : Int)) (h1 : (lowS ((nthP z (Int.toNat (i))).1)) = (lowS nm)) : RHDr0 z nm E' x' e' h' (1, i, O) X := by
  obtain ⟨i0, i1, i2, i3, i4, i5, i6, i7, it⟩ := unIDr0 z nm 1 i O hI
  have hnm := nmAt i4.2 (Int.toNat i)
  have hO := congrArg List.length i5
  have hO2 := dropS_len nm (z.take (Int.toNat i))
  have hO3 : (z.take (Int.toNat i)).length ≤ z.length := by rw [List.length_take]; omega
  have := prAt (l := z) (by assumption) (Int.toNat (i))
  have : (lowS ((nthP z (Int.toNat (i))).1)).length = ((nthP z (Int.toNat (i))).1).length := List.length_map ..
  have : (lowS nm).length = nm.length := List.length_map ..
  refine stDr0_1 z nm i O (h := hyDr0_p3) (1, i + 1, O) ?_ (mkIDr0 z nm 1 (i + 1) O ⟨by omega, by omega, i2, i3, i4, by rw [dropS_n (by omega) (by omega) (by assumption)]; exact i5, fun h => by omega, i7, by omega⟩) (by show z.length - (i + 1).toNat < z.length - i.toNat; omega) (thXv (v := St' nm) rfl rfl (thXv (v := .int .i64 ((z.length : Int))) rfl rfl (thXi (b := ((i + 1))) rfl rfl (by omega) (thXv (v := rwG prC z) rfl rfl (thXv (v := rwG prC O) rfl rfl (thNil)))))) runDr0_p3
  unfold hyDr0_p3
  exact hc (kRn (denX rfl)) <|
   hc (ltT rfl rfl (by omega)) <|
   hc (kElG (j := (Int.toNat (i))) (d := ([], [])) prC_len (by decide) (isX rfl) (isX rfl) (denX rfl) (by omega) (by omega) rfl) <|
   hc (kElG (j := (Int.toNat (i))) (d := ([], [])) prC_len (by decide) (isX rfl) (isX rfl) (denX rfl) (by omega) (by omega) rfl) <|
   hc (hokLower (s := (nthP z (Int.toNat (i))).1) (isX rfl) (denX rfl) (by omega) (by omega)) <|
   hc (hokLower (s := nm) (isX rfl) (denX rfl) (by omega) (by omega)) <|
   hc (kEqS (isX rfl) (isX rfl) (by first | exact decide_eq_true rfl | exact decide_eq_true ‹_› | exact decide_eq_false ‹_›)) <|
   hc (adC rfl rfl (by omega)) <|
   hnil
def hyDr0_p4 : LK := [(.rn, .x 2000003), (.bin .lss (.x 2) (.x 1), .b false)]
theorem runDr0_p4 : RNDr0_1 hyDr0_p4 (.exit 0) [(2000000, .x 2000000), (2000001, .x 2000001)] [(65, 65)] 105 [(5, .sr 65)] [(54, .r 2000000 23 2 false), (65, .r 2000001 23 2 false)] = true := by kernel_rfl
def hyDr0_p5 : LK := [(.rn, .x 2000004), (.bin .lss (.x 2) (.x 1), .b true), (.el (.x 2000000) (.x 2) 2 0, .x 8), (.el (.x 2000000) (.x 2) 2 1, .x 9), (.call 43 [.x 8], .x 10), (.call 43 [.x 0], .x 11), (.bin .eql (.x 10) (.x 11), .b false), (.ra (.x 2000001) [.x 8, .x 9], .x 2000005), (.rf (.x 2000005) 2 32, .b true), (.bin .add (.x 2) (.i .i64 (.ofNat 1)), .x 12)]
theorem runDr0_p5 : RNDr0_1 hyDr0_p5 .normal [(0, .x 0), (1, .x 1), (2, .x 12), (2000000, .x 2000000), (2000001, .x 2000005)] [(65, 68)] 66 epDr0_1 hpDr0_1 = true := by kernel_rfl
theorem nxDr0_p5 (z : List (LB × LB)) (nm : LB) (i : Int) (O : List (LB × LB)) (X : Nat → Value) (hI : InvDr0 z nm (1, i, O)) (h0 : i < (z.length : Int)) (h1 : ¬ ((lowS ((nthP z (Int.toNat (i))).1)) = (lowS nm))) : RHDr0 z nm E' x' e' h' (1, i, O) X := by
  obtain ⟨i0, i1, i2, i3, i4, i5, i6, i7, it⟩ := unIDr0 z nm 1 i O hI
  have hnm := nmAt i4.2 (Int.toNat i)
  have hO := congrArg List.length i5
  have hO2 := dropS_len nm (z.take (Int.toNat i))
  have hO3 : (z.take (Int.toNat i)).length ≤ z.length := by rw [List.length_take]; omega
  have := prAt (l := z) (by assumption) (Int.toNat (i))
  have : (lowS ((nthP z (Int.toNat (i))).1)).length = ((nthP z (Int.toNat (i))).1).length := List.length_map ..
  have : (lowS nm).length = nm.length := List.length_map ..
  refine stDr0_1 z nm i O (h := hyDr0_p5) (1, i + 1, (O ++ [((nthP z (Int.toNat (i))).1, (nthP z (Int.toNat (i))).2)])) ?_ (mkIDr0 z nm 1 (i + 1) (O ++ [((nthP z (Int.toNat (i))).1, (nthP z (Int.toNat (i))).2)]) ⟨by omega, by omega, i2, i3, i4, by rw [dropS_y (by omega) (by omega) (by assumption), ← i5], fun h => by omega, fun _ => by simp, by omega⟩) (by show z.length - (i + 1).toNat < z.length - i.toNat; omega) (thXv (v := St' nm) rfl rfl (thXv (v := .int .i64 ((z.length : Int))) rfl rfl (thXi (b := ((i + 1))) rfl rfl (by omega) (thXv (v := rwG prC z) rfl rfl (thXv (v := rwG prC (O ++ [((nthP z (Int.toNat (i))).1, (nthP z (Int.toNat (i))).2)])) rfl rfl (thNil)))))) runDr0_p5
  unfold hyDr0_p5
  exact hc (kRn (denX rfl)) <|
   hc (ltT rfl rfl (by omega)) <|
   hc (kElG (j := (Int.toNat (i))) (d := ([], [])) prC_len (by decide) (isX rfl) (isX rfl) (denX rfl) (by omega) (by omega) rfl) <|
   hc (kElG (j := (Int.toNat (i))) (d := ([], [])) prC_len (by decide) (isX rfl) (isX rfl) (denX rfl) (by omega) (by omega) rfl) <|
   hc (hokLower (s := (nthP z (Int.toNat (i))).1) (isX rfl) (denX rfl) (by omega) (by omega)) <|
   hc (hokLower (s := nm) (isX rfl) (denX rfl) (by omega) (by omega)) <|
   hc (kEqS (isX rfl) (isX rfl) (by first | exact decide_eq_true rfl | exact decide_eq_true ‹_› | exact decide_eq_false ‹_›)) <|
   hc (kRaG (f := prC) (l := O) (a := ((nthP z (Int.toNat (i))).1, (nthP z (Int.toNat (i))).2)) (isX rfl) (isL2 (isX rfl) (isX rfl)) (denX rfl)) <|
   hc (kRfG prC_len (isX rfl) (by first | omega | (simp <;> omega)) (by first | omega | (simp <;> omega))) <|
   hc (adC rfl rfl (by omega)) <|
   hnil
def nuEDr0_0 (z : List (LB × LB)) (nm : LB) : List Value := []
def roEDr0_0 (z : List (LB × LB)) (nm : LB) : List Value := [rwG prC z]
noncomputable def EDr0_0 (z : List (LB × LB)) (nm : LB) : Cx := cx (nuX (nuEDr0_0 z nm) (rX (roEDr0_0 z nm) (fun _ => .bool true))) (nuX_one (nuL_one (l := nuEDr0_0 z nm) rfl)) 0 laidE laidE_stab
theorem roundsDr0_0 (z : List (LB × LB)) (nm : LB) (x0 : dropS nm z = []) (st : Nat × Int × List (LB × LB)) (X : Nat → Value) (hI : InvDr0 z nm st) : RHDr0 z nm (EDr0_0 z nm) (.exit 0) [(5, .nils)] [(54, .r 2000000 23 2 false)] st X := by
  obtain ⟨tag, i, O⟩ := st
  have hI0 := hI
  obtain ⟨i0, i1, i2, i3, i4, i5, i6, i7, it⟩ := unIDr0 z nm tag i O hI
  rcases (show tag = 0 ∨ tag = 1 from by omega) with rfl | rfl
  · skip
    by_cases h0 : i < (z.length : Int)
    · by_cases h1 : (lowS ((nthP z (Int.toNat (i))).1)) = (lowS nm)
      · exact nxDr0_p0 z nm i O X hI0 h0 h1
      · exact nxDr0_p2 z nm i O X hI0 h0 h1
    · skip
      have hdx := dropS_x (nm := nm) (z := z) (i := i) (by omega) (by omega)
      refine lvDr0_0 z nm i O (h := hyDr0_p1) rfl ?_ (thXv (v := rwG prC z) rfl rfl (thNil)) runDr0_p1
      unfold hyDr0_p1
      exact hc (kRn (denX rfl)) <|
       hc (ltF rfl rfl (by omega)) <|
       hnil
  · skip
    by_cases h0 : i < (z.length : Int)
    · by_cases h1 : (lowS ((nthP z (Int.toNat (i))).1)) = (lowS nm)
      · exact nxDr0_p3 z nm i O X hI0 h0 h1
      · exact nxDr0_p5 z nm i O X hI0 h0 h1
    · exfalso; have hdx := dropS_x (nm := nm) (z := z) (i := i) (by omega) (by omega); have hL := i7 (by omega); rw [i5, hdx, x0] at hL; simp at hL
theorem lfOkDr0_0 {l : LF} {h : LH} (z : List (LB × LB)) (nm : LB) (x0 : dropS nm z = []) (st : Nat × Int × List (LB × LB)) (hI : InvDr0 z nm st) (hl : l.hp = some h) (hs : lfSame l h 25 keepDr0 (.exit 0) 4 65 105 = true) {th0 : LA} {sg0 : List (Nat × Nat)} (hth0 : ∀ X, ThOk (cx nu one 0 laidE laidE_stab) (DDr0 z nm st X) th0) (h0 : startOk l h 25 65 66 th0 sg0 (epDr0 st) (hpDr0 st) = true) {thx : LA} (hthx : ThOk (EDr0_0 z nm) (cx nu one 0 laidE laidE_stab) thx) (hx : exitOk l h 25 65 105 thx [(5, .nils)] [(54, .r 2000000 23 2 false)] = true) : LfOk (cx nu one 0 laidE laidE_stab) bodyDr0 l :=
  lfOkX (E := EDr0_0 z nm) (InvDr0 z nm) (muDr0 z nm) (DDr0 z nm) (fun _ _ => rfl) (fun _ _ => rfl) (fun _ _ => rfl) (fun st X t ht => nuX_keep.trans (rX_keep ((by decide : ∀ t, t ∈ keepDr0 → t < 1000000) t ht))) rfl rfl rfl hl hs ebDr0 rfl rfl st hI hth0 h0 hthx hx (roundsDr0_0 z nm x0)
def nuEDr0_1 (z : List (LB × LB)) (nm : LB) : List Value := []
def roEDr0_1 (z : List (LB × LB)) (nm : LB) : List Value := [rwG prC z, rwG prC (dropS nm z)]
noncomputable def EDr0_1 (z : List (LB × LB)) (nm : LB) : Cx := cx (nuX (nuEDr0_1 z nm) (rX (roEDr0_1 z nm) (fun _ => .bool true))) (nuX_one (nuL_one (l := nuEDr0_1 z nm) rfl)) 0 laidE laidE_stab
theorem roundsDr0_1 (z : List (LB × LB)) (nm : LB) (x0 : 1 ≤ (dropS nm z).length) (st : Nat × Int × List (LB × LB)) (X : Nat → Value) (hI : InvDr0 z nm st) : RHDr0 z nm (EDr0_1 z nm) (.exit 0) [(5, .sr 65)] [(54, .r 2000000 23 2 false), (65, .r 2000001 23 2 false)] st X := by
  obtain ⟨tag, i, O⟩ := st
  have hI0 := hI
  obtain ⟨i0, i1, i2, i3, i4, i5, i6, i7, it⟩ := unIDr0 z nm tag i O hI
  rcases (show tag = 0 ∨ tag = 1 from by omega) with rfl | rfl
  · skip
    by_cases h0 : i < (z.length : Int)
    · by_cases h1 : (lowS ((nthP z (Int.toNat (i))).1)) = (lowS nm)
      · exact nxDr0_p0 z nm i O X hI0 h0 h1
      · exact nxDr0_p2 z nm i O X hI0 h0 h1
    · exfalso; have hdx := dropS_x (nm := nm) (z := z) (i := i) (by omega) (by omega); have hO := i6 (by omega); rw [hO, hdx] at i5; rw [← i5] at x0; simp at x0
  · skip
    by_cases h0 : i < (z.length : Int)
    · by_cases h1 : (lowS ((nthP z (Int.toNat (i))).1)) = (lowS nm)
      · exact nxDr0_p3 z nm i O X hI0 h0 h1
      · exact nxDr0_p5 z nm i O X hI0 h0 h1
    · skip
      have hdx := dropS_x (nm := nm) (z := z) (i := i) (by omega) (by omega)
      refine lvDr0_1 z nm i O (h := hyDr0_p4) rfl ?_ (thXv (v := rwG prC z) rfl rfl (thXe (v := rwG prC O) (u := rwG prC (dropS nm z)) rfl rfl (congrArg (rwG prC) (i5.trans hdx)) (thNil))) runDr0_p4
      unfold hyDr0_p4
      exact hc (kRn (denX rfl)) <|
       hc (ltF rfl rfl (by omega)) <|
       hnil
theorem lfOkDr0_1 {l : LF} {h : LH} (z : List (LB × LB)) (nm : LB) (x0 : 1 ≤ (dropS nm z).length) (st : Nat × Int × List (LB × LB)) (hI : InvDr0 z nm st) (hl : l.hp = some h) (hs : lfSame l h 25 keepDr0 (.exit 0) 4 65 105 = true) {th0 : LA} {sg0 : List (Nat × Nat)} (hth0 : ∀ X, ThOk (cx nu one 0 laidE laidE_stab) (DDr0 z nm st X) th0) (h0 : startOk l h 25 65 66 th0 sg0 (epDr0 st) (hpDr0 st) = true) {thx : LA} (hthx : ThOk (EDr0_1 z nm) (cx nu one 0 laidE laidE_stab) thx) (hx : exitOk l h 25 65 105 thx [(5, .sr 65)] [(54, .r 2000000 23 2 false), (65, .r 2000001 23 2 false)] = true) : LfOk (cx nu one 0 laidE laidE_stab) bodyDr0 l :=
  lfOkX (E := EDr0_1 z nm) (InvDr0 z nm) (muDr0 z nm) (DDr0 z nm) (fun _ _ => rfl) (fun _ _ => rfl) (fun _ _ => rfl) (fun st X t ht => nuX_keep.trans (rX_keep ((by decide : ∀ t, t ∈ keepDr0 → t < 1000000) t ht))) rfl rfl rfl hl hs ebDr0 rfl rfl st hI hth0 h0 hthx hx (roundsDr0_1 z nm x0)
noncomputable def bodyGt1 : Code := loopNo (Tryd.f10.body.getD .skip) 0
theorem keyGt1 : oneKey (loopsOf (Tryd.f10.body.getD .skip)) 3 0 0 = true := by kernel_rfl
def keepGt1 : List Nat := []
def epGt1_0 : LA := [(1, .x 0), (5, .nils), (8, .sr 65), (9, .x 1), (10, .x 2)]
def hpGt1_0 : LE := [(65, .r 2000000 23 2 false)]
def nuGt1_0 (z : List (LB × LB)) (nm : LB) (i : Int) (O : List LB) : List Value := [St' nm, .int .i64 ((z.length : Int)), .int .i64 (i), St' ((nthP z (Int.toNat (i))).1), St' ((nthP z (Int.toNat (i))).2), St' (lowS ((nthP z (Int.toNat (i))).1)), St' (lowS nm), .int .i64 (i + 1), St' ((nthP z (Int.toNat (i))).1), St' ((nthP z (Int.toNat (i))).2), St' (lowS ((nthP z (Int.toNat (i))).1)), St' (lowS nm), .int .i64 (i + 1)]
def roGt1_0 (z : List (LB × LB)) (nm : LB) (i : Int) (O : List LB) : List Value := [rwG prC z, rwS ([] : List LB), rwS (([] : List LB) ++ [(nthP z (Int.toNat (i))).2]), rwS ([] : List LB), rwS ([] : List LB)]
def epGt1_1 : LA := [(1, .x 0), (5, .sr 115), (8, .sr 65), (9, .x 1), (10, .x 2)]
def hpGt1_1 : LE := [(65, .r 2000000 23 2 false), (115, .r 2000001 9 1 false)]
def nuGt1_1 (z : List (LB × LB)) (nm : LB) (i : Int) (O : List LB) : List Value := [St' nm, .int .i64 ((z.length : Int)), .int .i64 (i), St' ((nthP z (Int.toNat (i))).1), St' ((nthP z (Int.toNat (i))).2), St' (lowS ((nthP z (Int.toNat (i))).1)), St' (lowS nm), .int .i64 (i + 1), St' ((nthP z (Int.toNat (i))).1), St' ((nthP z (Int.toNat (i))).2), St' (lowS ((nthP z (Int.toNat (i))).1)), St' (lowS nm), .int .i64 (i + 1)]
def roGt1_1 (z : List (LB × LB)) (nm : LB) (i : Int) (O : List LB) : List Value := [rwG prC z, rwS O, rwS ([] : List LB), rwS (O ++ [(nthP z (Int.toNat (i))).2]), rwS ([] : List LB), rwS ([] : List LB)]
def epGt1 (st : Nat × Int × List LB) : LA := if st.1 = 0 then epGt1_0 else epGt1_1
def hpGt1 (st : Nat × Int × List LB) : LE := if st.1 = 0 then hpGt1_0 else hpGt1_1
def nuGt1 (z : List (LB × LB)) (nm : LB) (st : Nat × Int × List LB) : List Value := if st.1 = 0 then nuGt1_0 z nm (st.2.1) (st.2.2) else nuGt1_1 z nm (st.2.1) (st.2.2)
def roGt1 (z : List (LB × LB)) (nm : LB) (st : Nat × Int × List LB) : List Value := if st.1 = 0 then roGt1_0 z nm (st.2.1) (st.2.2) else roGt1_1 z nm (st.2.1) (st.2.2)
theorem onGt1 (z : List (LB × LB)) (nm : LB) (st : Nat × Int × List LB) : ∀ j, (nuL (nuGt1 z nm st) j).oneCell' = true := by
  intro j
  unfold nuGt1
  by_cases g0 : st.1 = 0
  · rw [if_pos g0]; exact nuL_one (l := nuGt1_0 z nm (st.2.1) (st.2.2)) rfl j
  rw [if_neg g0]
  exact nuL_one (l := nuGt1_1 z nm (st.2.1) (st.2.2)) rfl j
theorem ebGt1 (st : Nat × Int × List LB) : (lfB (epGt1 st) && lfC keepGt1) = true := by
  unfold epGt1
  by_cases g0 : st.1 = 0
  · rw [if_pos g0]; rfl
  rw [if_neg g0]
  rfl
noncomputable def DGt1 (z : List (LB × LB)) (nm : LB) (st : Nat × Int × List LB) (X : Nat → Value) : Cx := cx (nuX (nuGt1 z nm st) (rX (roGt1 z nm st) X)) (nuX_one (onGt1 z nm st)) 0 laidE laidE_stab
def InvGt1 (z : List (LB × LB)) (nm : LB) (st : Nat × Int × List LB) : Prop := (0 ≤ (st.2.1)) ∧ ((st.2.1) ≤ (z.length : Int)) ∧ (z.length ≤ 1000) ∧ (∀ q, q ∈ z → prB q) ∧ (nm.length ≤ 140737488351232 ∧ ∀ q, q ∈ z → q.1.length ≤ 140737488351232) ∧ ((st.2.2) = getS nm (z.take (Int.toNat (st.2.1)))) ∧ ((st.1) = 0 → (st.2.2) = []) ∧ ((st.1) = 1 → 1 ≤ (st.2.2).length) ∧ ((st.1) < 2)
abbrev CjGt1 (z : List (LB × LB)) (nm : LB) (tag : Nat) (i : Int) (O : List LB) : Prop := (0 ≤ i) ∧ (i ≤ (z.length : Int)) ∧ (z.length ≤ 1000) ∧ (∀ q, q ∈ z → prB q) ∧ (nm.length ≤ 140737488351232 ∧ ∀ q, q ∈ z → q.1.length ≤ 140737488351232) ∧ (O = getS nm (z.take (Int.toNat i))) ∧ (tag = 0 → O = []) ∧ (tag = 1 → 1 ≤ O.length) ∧ (tag < 2)
theorem mkIGt1 (z : List (LB × LB)) (nm : LB) (tag : Nat) (i : Int) (O : List LB) (h : CjGt1 z nm tag i O) : InvGt1 z nm (tag, i, O) := h
theorem unIGt1 (z : List (LB × LB)) (nm : LB) (tag : Nat) (i : Int) (O : List LB) (h : InvGt1 z nm (tag, i, O)) : (0 ≤ i) ∧ (i ≤ (z.length : Int)) ∧ (z.length ≤ 1000) ∧ (∀ q, q ∈ z → prB q) ∧ (nm.length ≤ 140737488351232 ∧ ∀ q, q ∈ z → q.1.length ≤ 140737488351232) ∧ (O = getS nm (z.take (Int.toNat i))) ∧ (tag = 0 → O = []) ∧ (tag = 1 → 1 ≤ O.length) ∧ (tag < 2) := h
def muGt1 (z : List (LB × LB)) (nm : LB) (st : Nat × Int × List LB) : Nat := (z.length - (st.2.1).toNat)
abbrev RHGt1 (z : List (LB × LB)) (nm : LB) (E' : Cx) (ex' : Ex) (epx' : LA) (hpx' : LE) (st : Nat × Int × List LB) (X : Nat → Value) : Prop := RoundH E' bodyGt1 keepGt1 25 ex' 4 115 116 155 epGt1 hpGt1 epx' hpx' (InvGt1 z nm) (muGt1 z nm) (DGt1 z nm) st X
noncomputable abbrev RNGt1_0 (h : LK) (x : Ex) (th : LA) (sg : List (Nat × Nat)) (m : Nat) (ep : LA) (hp : LE) : Bool := okRdH (code (tbl h) 3000 [] bodyGt1 (envOf (headOf epGt1_0 keepGt1) 25) ⟨lhSet hpGt1_0 .leaf, 116, 0, 0⟩) x keepGt1 25 155 th sg 115 m ep hp
theorem stGt1_0 (z : List (LB × LB)) (nm : LB) (i : Int) (O : List LB) {X : Nat → Value} {h : LK} (y : Nat × Int × List LB) {th : LA} {sg : List (Nat × Nat)} (ho : ∀ a' r', (a', r') ∈ h → HOk (cx (nuX (nuGt1_0 z nm i O) (rX (roGt1_0 z nm i O) X)) (nuX_one (nuL_one (l := nuGt1_0 z nm i O) rfl)) 0 laidE laidE_stab) a' r') (hy : InvGt1 z nm y) (lt : muGt1 z nm y < muGt1 z nm (0, i, O)) (ht : ThOk (cx (nuX (nuGt1_0 z nm i O) (rX (roGt1_0 z nm i O) X)) (nuX_one (nuL_one (l := nuGt1_0 z nm i O) rfl)) 0 laidE laidE_stab) (DGt1 z nm y X) th) (run : RNGt1_0 h .normal th sg 116 (epGt1 y) (hpGt1 y) = true) : RHGt1 z nm E' x' e' h' (0, i, O) X :=
  RoundH.next (tb := tbl h) (L := []) (f := 3000) y ((tabkOk _ _).hyps ho) (LpOk.nil _) rfl hy lt ht run
theorem lvGt1_0 (z : List (LB × LB)) (nm : LB) (i : Int) (O : List LB) {X : Nat → Value} {h : LK} {th : LA} {sg : List (Nat × Nat)} (hne : exB x' .normal = false) (ho : ∀ a' r', (a', r') ∈ h → HOk (cx (nuX (nuGt1_0 z nm i O) (rX (roGt1_0 z nm i O) X)) (nuX_one (nuL_one (l := nuGt1_0 z nm i O) rfl)) 0 laidE laidE_stab) a' r') (ht : ThOk (cx (nuX (nuGt1_0 z nm i O) (rX (roGt1_0 z nm i O) X)) (nuX_one (nuL_one (l := nuGt1_0 z nm i O) rfl)) 0 laidE laidE_stab) E' th) (run : RNGt1_0 h x' th sg 155 e' h' = true) : RHGt1 z nm E' x' e' h' (0, i, O) X :=
  RoundH.leave (tb := tbl h) (L := []) (f := 3000) ((tabkOk _ _).hyps ho) (LpOk.nil _) rfl hne ht run
noncomputable abbrev RNGt1_1 (h : LK) (x : Ex) (th : LA) (sg : List (Nat × Nat)) (m : Nat) (ep : LA) (hp : LE) : Bool := okRdH (code (tbl h) 3000 [] bodyGt1 (envOf (headOf epGt1_1 keepGt1) 25) ⟨lhSet hpGt1_1 .leaf, 116, 0, 0⟩) x keepGt1 25 155 th sg 115 m ep hp
theorem stGt1_1 (z : List (LB × LB)) (nm : LB) (i : Int) (O : List LB) {X : Nat → Value} {h : LK} (y : Nat × Int × List LB) {th : LA} {sg : List (Nat × Nat)} (ho : ∀ a' r', (a', r') ∈ h → HOk (cx (nuX (nuGt1_1 z nm i O) (rX (roGt1_1 z nm i O) X)) (nuX_one (nuL_one (l := nuGt1_1 z nm i O) rfl)) 0 laidE laidE_stab) a' r') (hy : InvGt1 z nm y) (lt : muGt1 z nm y < muGt1 z nm (1, i, O)) (ht : ThOk (cx (nuX (nuGt1_1 z nm i O) (rX (roGt1_1 z nm i O) X)) (nuX_one (nuL_one (l := nuGt1_1 z nm i O) rfl)) 0 laidE laidE_stab) (DGt1 z nm y X) th) (run : RNGt1_1 h .normal th sg 116 (epGt1 y) (hpGt1 y) = true) : RHGt1 z nm E' x' e' h' (1, i, O) X :=
  RoundH.next (tb := tbl h) (L := []) (f := 3000) y ((tabkOk _ _).hyps ho) (LpOk.nil _) rfl hy lt ht run
theorem lvGt1_1 (z : List (LB × LB)) (nm : LB) (i : Int) (O : List LB) {X : Nat → Value} {h : LK} {th : LA} {sg : List (Nat × Nat)} (hne : exB x' .normal = false) (ho : ∀ a' r', (a', r') ∈ h → HOk (cx (nuX (nuGt1_1 z nm i O) (rX (roGt1_1 z nm i O) X)) (nuX_one (nuL_one (l := nuGt1_1 z nm i O) rfl)) 0 laidE laidE_stab) a' r') (ht : ThOk (cx (nuX (nuGt1_1 z nm i O) (rX (roGt1_1 z nm i O) X)) (nuX_one (nuL_one (l := nuGt1_1 z nm i O) rfl)) 0 laidE laidE_stab) E' th) (run : RNGt1_1 h x' th sg 155 e' h' = true) : RHGt1 z nm E' x' e' h' (1, i, O) X :=
  RoundH.leave (tb := tbl h) (L := []) (f := 3000) ((tabkOk _ _).hyps ho) (LpOk.nil _) rfl hne ht run
def hyGt1_p0 : LK := [(.rn, .x 2000001), (.bin .lss (.x 2) (.x 1), .b true), (.el (.x 2000000) (.x 2) 2 0, .x 3), (.el (.x 2000000) (.x 2) 2 1, .x 4), (.call 43 [.x 3], .x 5), (.call 43 [.x 0], .x 6), (.bin .eql (.x 5) (.x 6), .b true), (.ra (.x 2000001) [.x 4], .x 2000002), (.rf (.x 2000002) 1 16, .b true), (.bin .add (.x 2) (.i .i64 (.ofNat 1)), .x 7)]
theorem runGt1_p0 : RNGt1_0 hyGt1_p0 .normal [(0, .x 0), (1, .x 1), (2, .x 7), (2000000, .x 2000000), (2000001, .x 2000002)] [(115, 118)] 116 epGt1_1 hpGt1_1 = true := by kernel_rfl
theorem nxGt1_p0 (z : List (LB × LB)) (nm : LB) (i : Int) (O : List LB) (X : Nat → Value) (hI : InvGt1 z nm (0, i, O)) (h0 : i < (z.length : Int)) (h1 : (lowS ((nthP z (Int.toNat (i))).1)) = (lowS nm)) : RHGt1 z nm E' x' e' h' (0, i, O) X := by
  obtain ⟨i0, i1, i2, i3, i4, i5, i6, i7, it⟩ := unIGt1 z nm 0 i O hI
  have hnm := nmAt i4.2 (Int.toNat i)
  have hO := congrArg List.length i5
  have hO2 := getS_len nm (z.take (Int.toNat i))
  have hO3 : (z.take (Int.toNat i)).length ≤ z.length := by rw [List.length_take]; omega
  have := prAt (l := z) (by assumption) (Int.toNat (i))
  have : (lowS ((nthP z (Int.toNat (i))).1)).length = ((nthP z (Int.toNat (i))).1).length := List.length_map ..
  have : (lowS nm).length = nm.length := List.length_map ..
  refine stGt1_0 z nm i O (h := hyGt1_p0) (1, i + 1, (([] : List LB) ++ [(nthP z (Int.toNat (i))).2])) ?_ (mkIGt1 z nm 1 (i + 1) (([] : List LB) ++ [(nthP z (Int.toNat (i))).2]) ⟨by omega, by omega, i2, i3, i4, by rw [getS_y (by omega) (by omega) (by assumption), ← i5, i6 (by omega)], fun h => by omega, fun _ => by simp, by omega⟩) (by show z.length - (i + 1).toNat < z.length - i.toNat; omega) (thXv (v := St' nm) rfl rfl (thXv (v := .int .i64 ((z.length : Int))) rfl rfl (thXi (b := ((i + 1))) rfl rfl (by omega) (thXv (v := rwG prC z) rfl rfl (thXv (v := rwS (([] : List LB) ++ [(nthP z (Int.toNat (i))).2])) rfl rfl (thNil)))))) runGt1_p0
  unfold hyGt1_p0
  exact hc (kRn (denX rfl)) <|
   hc (ltT rfl rfl (by omega)) <|
   hc (kElG (j := (Int.toNat (i))) (d := ([], [])) prC_len (by decide) (isX rfl) (isX rfl) (denX rfl) (by omega) (by omega) rfl) <|
   hc (kElG (j := (Int.toNat (i))) (d := ([], [])) prC_len (by decide) (isX rfl) (isX rfl) (denX rfl) (by omega) (by omega) rfl) <|
   hc (hokLower (s := (nthP z (Int.toNat (i))).1) (isX rfl) (denX rfl) (by omega) (by omega)) <|
   hc (hokLower (s := nm) (isX rfl) (denX rfl) (by omega) (by omega)) <|
   hc (kEqS (isX rfl) (isX rfl) (by first | exact decide_eq_true rfl | exact decide_eq_true ‹_› | exact decide_eq_false ‹_›)) <|
   hc (kRa (isX rfl) (isX rfl) (denX rfl)) <|
   hc (kRf (isX rfl) (by first | omega | (simp <;> omega)) (by first | omega | (simp <;> omega))) <|
   hc (adC rfl rfl (by omega)) <|
   hnil
def hyGt1_p1 : LK := [(.rn, .x 2000003), (.bin .lss (.x 2) (.x 1), .b false)]
theorem runGt1_p1 : RNGt1_0 hyGt1_p1 (.exit 0) [(2000000, .x 2000000)] [] 155 [(5, .nils)] [(65, .r 2000000 23 2 false)] = true := by kernel_rfl
def hyGt1_p2 : LK := [(.rn, .x 2000004), (.bin .lss (.x 2) (.x 1), .b true), (.el (.x 2000000) (.x 2) 2 0, .x 8), (.el (.x 2000000) (.x 2) 2 1, .x 9), (.call 43 [.x 8], .x 10), (.call 43 [.x 0], .x 11), (.bin .eql (.x 10) (.x 11), .b false), (.bin .add (.x 2) (.i .i64 (.ofNat 1)), .x 12)]
theorem runGt1_p2 : RNGt1_0 hyGt1_p2 .normal [(0, .x 0), (1, .x 1), (2, .x 12), (2000000, .x 2000000)] [] 116 epGt1_0 hpGt1_0 = true := by kernel_rfl
theorem nxGt1_p2 (z : List (LB × LB)) (nm : LB) (i : Int) (O : List LB) (X : Nat → Value) (hI : InvGt1 z nm (0, i, O)) (h0 : i < (z.length : Int)) (h1 : ¬ ((lowS ((nthP z (Int.toNat (i))).1)) = (lowS nm))) : RHGt1 z nm E' x' e' h' (0, i, O) X := by
  obtain ⟨i0, i1, i2, i3, i4, i5, i6, i7, it⟩ := unIGt1 z nm 0 i O hI
  have hnm := nmAt i4.2 (Int.toNat i)
  have hO := congrArg List.length i5
  have hO2 := getS_len nm (z.take (Int.toNat i))
  have hO3 : (z.take (Int.toNat i)).length ≤ z.length := by rw [List.length_take]; omega
  have := prAt (l := z) (by assumption) (Int.toNat (i))
  have : (lowS ((nthP z (Int.toNat (i))).1)).length = ((nthP z (Int.toNat (i))).1).length := List.length_map ..
  have : (lowS nm).length = nm.length := List.length_map ..
  refine stGt1_0 z nm i O (h := hyGt1_p2) (0, i + 1, ([] : List LB)) ?_ (mkIGt1 z nm 0 (i + 1) ([] : List LB) ⟨by omega, by omega, i2, i3, i4, by rw [getS_n (by omega) (by omega) (by assumption)]; exact (i6 (by omega)).symm.trans i5, fun _ => rfl, fun h => by omega, by omega⟩) (by show z.length - (i + 1).toNat < z.length - i.toNat; omega) (thXv (v := St' nm) rfl rfl (thXv (v := .int .i64 ((z.length : Int))) rfl rfl (thXi (b := ((i + 1))) rfl rfl (by omega) (thXv (v := rwG prC z) rfl rfl (thNil))))) runGt1_p2
  unfold hyGt1_p2
  exact hc (kRn (denX rfl)) <|
   hc (ltT rfl rfl (by omega)) <|
   hc (kElG (j := (Int.toNat (i))) (d := ([], [])) prC_len (by decide) (isX rfl) (isX rfl) (denX rfl) (by omega) (by omega) rfl) <|
   hc (kElG (j := (Int.toNat (i))) (d := ([], [])) prC_len (by decide) (isX rfl) (isX rfl) (denX rfl) (by omega) (by omega) rfl) <|
   hc (hokLower (s := (nthP z (Int.toNat (i))).1) (isX rfl) (denX rfl) (by omega) (by omega)) <|
   hc (hokLower (s := nm) (isX rfl) (denX rfl) (by omega) (by omega)) <|
   hc (kEqS (isX rfl) (isX rfl) (by first | exact decide_eq_true rfl | exact decide_eq_true ‹_› | exact decide_eq_false ‹_›)) <|
   hc (adC rfl rfl (by omega)) <|
   hnil
def hyGt1_p3 : LK := [(.rn, .x 2000002), (.bin .lss (.x 2) (.x 1), .b true), (.el (.x 2000000) (.x 2) 2 0, .x 3), (.el (.x 2000000) (.x 2) 2 1, .x 4), (.call 43 [.x 3], .x 5), (.call 43 [.x 0], .x 6), (.bin .eql (.x 5) (.x 6), .b true), (.ra (.x 2000001) [.x 4], .x 2000003), (.rf (.x 2000003) 1 16, .b true), (.bin .add (.x 2) (.i .i64 (.ofNat 1)), .x 7)]
theorem runGt1_p3 : RNGt1_1 hyGt1_p3 .normal [(0, .x 0), (1, .x 1), (2, .x 7), (2000000, .x 2000000), (2000001, .x 2000003)] [(115, 118)] 116 epGt1_1 hpGt1_1 = true := by kernel_rfl
theorem nxGt1_p3 (z : List (LB × LB)) (nm : LB) (i : Int) (O : List LB) (X : Nat → Value) (hI : InvGt1 z nm (1, i, O)) (h0 : i < (z.length : Int)) (h1 : (lowS ((nthP z (Int.toNat (i))).1)) = (lowS nm)) : RHGt1 z nm E' x' e' h' (1, i, O) X := by
  obtain ⟨i0, i1, i2, i3, i4, i5, i6, i7, it⟩ := unIGt1 z nm 1 i O hI
  have hnm := nmAt i4.2 (Int.toNat i)
  have hO := congrArg List.length i5
  have hO2 := getS_len nm (z.take (Int.toNat i))
  have hO3 : (z.take (Int.toNat i)).length ≤ z.length := by rw [List.length_take]; omega
  have := prAt (l := z) (by assumption) (Int.toNat (i))
  have : (lowS ((nthP z (Int.toNat (i))).1)).length = ((nthP z (Int.toNat (i))).1).length := List.length_map ..
  have : (lowS nm).length = nm.length := List.length_map ..
  refine stGt1_1 z nm i O (h := hyGt1_p3) (1, i + 1, (O ++ [(nthP z (Int.toNat (i))).2])) ?_ (mkIGt1 z nm 1 (i + 1) (O ++ [(nthP z (Int.toNat (i))).2]) ⟨by omega, by omega, i2, i3, i4, by rw [getS_y (by omega) (by omega) (by assumption), ← i5], fun h => by omega, fun _ => by simp, by omega⟩) (by show z.length - (i + 1).toNat < z.length - i.toNat; omega) (thXv (v := St' nm) rfl rfl (thXv (v := .int .i64 ((z.length : Int))) rfl rfl (thXi (b := ((i + 1))) rfl rfl (by omega) (thXv (v := rwG prC z) rfl rfl (thXv (v := rwS (O ++ [(nthP z (Int.toNat (i))).2])) rfl rfl (thNil)))))) runGt1_p3
  unfold hyGt1_p3
  exact hc (kRn (denX rfl)) <|
   hc (ltT rfl rfl (by omega)) <|
   hc (kElG (j := (Int.toNat (i))) (d := ([], [])) prC_len (by decide) (isX rfl) (isX rfl) (denX rfl) (by omega) (by omega) rfl) <|
   hc (kElG (j := (Int.toNat (i))) (d := ([], [])) prC_len (by decide) (isX rfl) (isX rfl) (denX rfl) (by omega) (by omega) rfl) <|
   hc (hokLower (s := (nthP z (Int.toNat (i))).1) (isX rfl) (denX rfl) (by omega) (by omega)) <|
   hc (hokLower (s := nm) (isX rfl) (denX rfl) (by omega) (by omega)) <|
   hc (kEqS (isX rfl) (isX rfl) (by first | exact decide_eq_true rfl | exact decide_eq_true ‹_› | exact decide_eq_false ‹_›)) <|
   hc (kRa (isX rfl) (isX rfl) (denX rfl)) <|
   hc (kRf (isX rfl) (by first | omega | (simp <;> omega)) (by first | omega | (simp <;> omega))) <|
   hc (adC rfl rfl (by omega)) <|
   hnil
def hyGt1_p4 : LK := [(.rn, .x 2000004), (.bin .lss (.x 2) (.x 1), .b false)]
theorem runGt1_p4 : RNGt1_1 hyGt1_p4 (.exit 0) [(2000000, .x 2000000), (2000001, .x 2000001)] [(115, 115)] 155 [(5, .sr 115)] [(65, .r 2000000 23 2 false), (115, .r 2000001 9 1 false)] = true := by kernel_rfl
def hyGt1_p5 : LK := [(.rn, .x 2000005), (.bin .lss (.x 2) (.x 1), .b true), (.el (.x 2000000) (.x 2) 2 0, .x 8), (.el (.x 2000000) (.x 2) 2 1, .x 9), (.call 43 [.x 8], .x 10), (.call 43 [.x 0], .x 11), (.bin .eql (.x 10) (.x 11), .b false), (.bin .add (.x 2) (.i .i64 (.ofNat 1)), .x 12)]
theorem runGt1_p5 : RNGt1_1 hyGt1_p5 .normal [(0, .x 0), (1, .x 1), (2, .x 12), (2000000, .x 2000000), (2000001, .x 2000001)] [(115, 115)] 116 epGt1_1 hpGt1_1 = true := by kernel_rfl
theorem nxGt1_p5 (z : List (LB × LB)) (nm : LB) (i : Int) (O : List LB) (X : Nat → Value) (hI : InvGt1 z nm (1, i, O)) (h0 : i < (z.length : Int)) (h1 : ¬ ((lowS ((nthP z (Int.toNat (i))).1)) = (lowS nm))) : RHGt1 z nm E' x' e' h' (1, i, O) X := by
  obtain ⟨i0, i1, i2, i3, i4, i5, i6, i7, it⟩ := unIGt1 z nm 1 i O hI
  have hnm := nmAt i4.2 (Int.toNat i)
  have hO := congrArg List.length i5
  have hO2 := getS_len nm (z.take (Int.toNat i))
  have hO3 : (z.take (Int.toNat i)).length ≤ z.length := by rw [List.length_take]; omega
  have := prAt (l := z) (by assumption) (Int.toNat (i))
  have : (lowS ((nthP z (Int.toNat (i))).1)).length = ((nthP z (Int.toNat (i))).1).length := List.length_map ..
  have : (lowS nm).length = nm.length := List.length_map ..
  refine stGt1_1 z nm i O (h := hyGt1_p5) (1, i + 1, O) ?_ (mkIGt1 z nm 1 (i + 1) O ⟨by omega, by omega, i2, i3, i4, by rw [getS_n (by omega) (by omega) (by assumption)]; exact i5, fun h => by omega, i7, by omega⟩) (by show z.length - (i + 1).toNat < z.length - i.toNat; omega) (thXv (v := St' nm) rfl rfl (thXv (v := .int .i64 ((z.length : Int))) rfl rfl (thXi (b := ((i + 1))) rfl rfl (by omega) (thXv (v := rwG prC z) rfl rfl (thXv (v := rwS O) rfl rfl (thNil)))))) runGt1_p5
  unfold hyGt1_p5
  exact hc (kRn (denX rfl)) <|
   hc (ltT rfl rfl (by omega)) <|
   hc (kElG (j := (Int.toNat (i))) (d := ([], [])) prC_len (by decide) (isX rfl) (isX rfl) (denX rfl) (by omega) (by omega) rfl) <|
   hc (kElG (j := (Int.toNat (i))) (d := ([], [])) prC_len (by decide) (isX rfl) (isX rfl) (denX rfl) (by omega) (by omega) rfl) <|
   hc (hokLower (s := (nthP z (Int.toNat (i))).1) (isX rfl) (denX rfl) (by omega) (by omega)) <|
   hc (hokLower (s := nm) (isX rfl) (denX rfl) (by omega) (by omega)) <|
   hc (kEqS (isX rfl) (isX rfl) (by first | exact decide_eq_true rfl | exact decide_eq_true ‹_› | exact decide_eq_false ‹_›)) <|
   hc (adC rfl rfl (by omega)) <|
   hnil
def nuEGt1_0 (z : List (LB × LB)) (nm : LB) : List Value := []
def roEGt1_0 (z : List (LB × LB)) (nm : LB) : List Value := [rwG prC z]
noncomputable def EGt1_0 (z : List (LB × LB)) (nm : LB) : Cx := cx (nuX (nuEGt1_0 z nm) (rX (roEGt1_0 z nm) (fun _ => .bool true))) (nuX_one (nuL_one (l := nuEGt1_0 z nm) rfl)) 0 laidE laidE_stab
theorem roundsGt1_0 (z : List (LB × LB)) (nm : LB) (x0 : getS nm z = []) (st : Nat × Int × List LB) (X : Nat → Value) (hI : InvGt1 z nm st) : RHGt1 z nm (EGt1_0 z nm) (.exit 0) [(5, .nils)] [(65, .r 2000000 23 2 false)] st X := by
  obtain ⟨tag, i, O⟩ := st
  have hI0 := hI
  obtain ⟨i0, i1, i2, i3, i4, i5, i6, i7, it⟩ := unIGt1 z nm tag i O hI
  rcases (show tag = 0 ∨ tag = 1 from by omega) with rfl | rfl
  · skip
    by_cases h0 : i < (z.length : Int)
    · by_cases h1 : (lowS ((nthP z (Int.toNat (i))).1)) = (lowS nm)
      · exact nxGt1_p0 z nm i O X hI0 h0 h1
      · exact nxGt1_p2 z nm i O X hI0 h0 h1
    · skip
      have hdx := getS_x (nm := nm) (z := z) (i := i) (by omega) (by omega)
      refine lvGt1_0 z nm i O (h := hyGt1_p1) rfl ?_ (thXv (v := rwG prC z) rfl rfl (thNil)) runGt1_p1
      unfold hyGt1_p1
      exact hc (kRn (denX rfl)) <|
       hc (ltF rfl rfl (by omega)) <|
       hnil
  · skip
    by_cases h0 : i < (z.length : Int)
    · by_cases h1 : (lowS ((nthP z (Int.toNat (i))).1)) = (lowS nm)
      · exact nxGt1_p3 z nm i O X hI0 h0 h1
      · exact nxGt1_p5 z nm i O X hI0 h0 h1
    · exfalso; have hdx := getS_x (nm := nm) (z := z) (i := i) (by omega) (by omega); have hL := i7 (by omega); rw [i5, hdx, x0] at hL; simp at hL
theorem lfOkGt1_0 {l : LF} {h : LH} (z : List (LB × LB)) (nm : LB) (x0 : getS nm z = []) (st : Nat × Int × List LB) (hI : InvGt1 z nm st) (hl : l.hp = some h) (hs : lfSame l h 25 keepGt1 (.exit 0) 4 115 155 = true) {th0 : LA} {sg0 : List (Nat × Nat)} (hth0 : ∀ X, ThOk (cx nu one 0 laidE laidE_stab) (DGt1 z nm st X) th0) (h0 : startOk l h 25 115 116 th0 sg0 (epGt1 st) (hpGt1 st) = true) {thx : LA} (hthx : ThOk (EGt1_0 z nm) (cx nu one 0 laidE laidE_stab) thx) (hx : exitOk l h 25 115 155 thx [(5, .nils)] [(65, .r 2000000 23 2 false)] = true) : LfOk (cx nu one 0 laidE laidE_stab) bodyGt1 l :=
  lfOkX (E := EGt1_0 z nm) (InvGt1 z nm) (muGt1 z nm) (DGt1 z nm) (fun _ _ => rfl) (fun _ _ => rfl) (fun _ _ => rfl) (fun st X t ht => nuX_keep.trans (rX_keep ((by decide : ∀ t, t ∈ keepGt1 → t < 1000000) t ht))) rfl rfl rfl hl hs ebGt1 rfl rfl st hI hth0 h0 hthx hx (roundsGt1_0 z nm x0)
def nuEGt1_1 (z : List (LB × LB)) (nm : LB) : List Value := []
def roEGt1_1 (z : List (LB × LB)) (nm : LB) : List Value := [rwG prC z, rwS (getS nm z)]
noncomputable def EGt1_1 (z : List (LB × LB)) (nm : LB) : Cx := cx (nuX (nuEGt1_1 z nm) (rX (roEGt1_1 z nm) (fun _ => .bool true))) (nuX_one (nuL_one (l := nuEGt1_1 z nm) rfl)) 0 laidE laidE_stab
theorem roundsGt1_1 (z : List (LB × LB)) (nm : LB) (x0 : 1 ≤ (getS nm z).length) (st : Nat × Int × List LB) (X : Nat → Value) (hI : InvGt1 z nm st) : RHGt1 z nm (EGt1_1 z nm) (.exit 0) [(5, .sr 115)] [(65, .r 2000000 23 2 false), (115, .r 2000001 9 1 false)] st X := by
  obtain ⟨tag, i, O⟩ := st
  have hI0 := hI
  obtain ⟨i0, i1, i2, i3, i4, i5, i6, i7, it⟩ := unIGt1 z nm tag i O hI
  rcases (show tag = 0 ∨ tag = 1 from by omega) with rfl | rfl
  · skip
    by_cases h0 : i < (z.length : Int)
    · by_cases h1 : (lowS ((nthP z (Int.toNat (i))).1)) = (lowS nm)
      · exact nxGt1_p0 z nm i O X hI0 h0 h1
      · exact nxGt1_p2 z nm i O X hI0 h0 h1
    · exfalso; have hdx := getS_x (nm := nm) (z := z) (i := i) (by omega) (by omega); have hO := i6 (by omega); rw [hO, hdx] at i5; rw [← i5] at x0; simp at x0
  · skip
    by_cases h0 : i < (z.length : Int)
    · by_cases h1 : (lowS ((nthP z (Int.toNat (i))).1)) = (lowS nm)
      · exact nxGt1_p3 z nm i O X hI0 h0 h1
      · exact nxGt1_p5 z nm i O X hI0 h0 h1
    · skip
      have hdx := getS_x (nm := nm) (z := z) (i := i) (by omega) (by omega)
      refine lvGt1_1 z nm i O (h := hyGt1_p4) rfl ?_ (thXv (v := rwG prC z) rfl rfl (thXe (v := rwS O) (u := rwS (getS nm z)) rfl rfl (congrArg (rwS) (i5.trans hdx)) (thNil))) runGt1_p4
      unfold hyGt1_p4
      exact hc (kRn (denX rfl)) <|
       hc (ltF rfl rfl (by omega)) <|
       hnil
theorem lfOkGt1_1 {l : LF} {h : LH} (z : List (LB × LB)) (nm : LB) (x0 : 1 ≤ (getS nm z).length) (st : Nat × Int × List LB) (hI : InvGt1 z nm st) (hl : l.hp = some h) (hs : lfSame l h 25 keepGt1 (.exit 0) 4 115 155 = true) {th0 : LA} {sg0 : List (Nat × Nat)} (hth0 : ∀ X, ThOk (cx nu one 0 laidE laidE_stab) (DGt1 z nm st X) th0) (h0 : startOk l h 25 115 116 th0 sg0 (epGt1 st) (hpGt1 st) = true) {thx : LA} (hthx : ThOk (EGt1_1 z nm) (cx nu one 0 laidE laidE_stab) thx) (hx : exitOk l h 25 115 155 thx [(5, .sr 115)] [(65, .r 2000000 23 2 false), (115, .r 2000001 9 1 false)] = true) : LfOk (cx nu one 0 laidE laidE_stab) bodyGt1 l :=
  lfOkX (E := EGt1_1 z nm) (InvGt1 z nm) (muGt1 z nm) (DGt1 z nm) (fun _ _ => rfl) (fun _ _ => rfl) (fun _ _ => rfl) (fun st X t ht => nuX_keep.trans (rX_keep ((by decide : ∀ t, t ∈ keepGt1 → t < 1000000) t ht))) rfl rfl rfl hl hs ebGt1 rfl rfl st hI hth0 h0 hthx hx (roundsGt1_1 z nm x0)
noncomputable def bodyGt2 : Code := loopNo (Tryd.f10.body.getD .skip) 0
theorem keyGt2 : oneKey (loopsOf (Tryd.f10.body.getD .skip)) 3 0 0 = true := by kernel_rfl
def keepGt2 : List Nat := []
def epGt2_0 : LA := [(1, .x 0), (5, .nils), (8, .sr 4), (9, .x 1), (10, .x 2)]
def hpGt2_0 : LE := [(4, .r 2000000 23 2 true)]
def nuGt2_0 (z : List (LB × LB)) (nm : LB) (i : Int) (O : List LB) : List Value := [St' nm, .int .i64 ((z.length : Int)), .int .i64 (i), St' ((nthP z (Int.toNat (i))).1), St' ((nthP z (Int.toNat (i))).2), St' (lowS ((nthP z (Int.toNat (i))).1)), St' (lowS nm), .int .i64 (i + 1), St' ((nthP z (Int.toNat (i))).1), St' ((nthP z (Int.toNat (i))).2), St' (lowS ((nthP z (Int.toNat (i))).1)), St' (lowS nm), .int .i64 (i + 1)]
def roGt2_0 (z : List (LB × LB)) (nm : LB) (i : Int) (O : List LB) : List Value := [rwG prC z, rwS ([] : List LB), rwS (([] : List LB) ++ [(nthP z (Int.toNat (i))).2]), rwS ([] : List LB), rwS ([] : List LB)]
def epGt2_1 : LA := [(1, .x 0), (5, .sr 165), (8, .sr 4), (9, .x 1), (10, .x 2)]
def hpGt2_1 : LE := [(4, .r 2000000 23 2 true), (165, .r 2000001 9 1 false)]
def nuGt2_1 (z : List (LB × LB)) (nm : LB) (i : Int) (O : List LB) : List Value := [St' nm, .int .i64 ((z.length : Int)), .int .i64 (i), St' ((nthP z (Int.toNat (i))).1), St' ((nthP z (Int.toNat (i))).2), St' (lowS ((nthP z (Int.toNat (i))).1)), St' (lowS nm), .int .i64 (i + 1), St' ((nthP z (Int.toNat (i))).1), St' ((nthP z (Int.toNat (i))).2), St' (lowS ((nthP z (Int.toNat (i))).1)), St' (lowS nm), .int .i64 (i + 1)]
def roGt2_1 (z : List (LB × LB)) (nm : LB) (i : Int) (O : List LB) : List Value := [rwG prC z, rwS O, rwS ([] : List LB), rwS (O ++ [(nthP z (Int.toNat (i))).2]), rwS ([] : List LB), rwS ([] : List LB)]
def epGt2 (st : Nat × Int × List LB) : LA := if st.1 = 0 then epGt2_0 else epGt2_1
def hpGt2 (st : Nat × Int × List LB) : LE := if st.1 = 0 then hpGt2_0 else hpGt2_1
def nuGt2 (z : List (LB × LB)) (nm : LB) (st : Nat × Int × List LB) : List Value := if st.1 = 0 then nuGt2_0 z nm (st.2.1) (st.2.2) else nuGt2_1 z nm (st.2.1) (st.2.2)
def roGt2 (z : List (LB × LB)) (nm : LB) (st : Nat × Int × List LB) : List Value := if st.1 = 0 then roGt2_0 z nm (st.2.1) (st.2.2) else roGt2_1 z nm (st.2.1) (st.2.2)
theorem onGt2 (z : List (LB × LB)) (nm : LB) (st : Nat × Int × List LB) : ∀ j, (nuL (nuGt2 z nm st) j).oneCell' = true := by
  intro j
  unfold nuGt2
  by_cases g0 : st.1 = 0
  · rw [if_pos g0]; exact nuL_one (l := nuGt2_0 z nm (st.2.1) (st.2.2)) rfl j
  rw [if_neg g0]
  exact nuL_one (l := nuGt2_1 z nm (st.2.1) (st.2.2)) rfl j
theorem ebGt2 (st : Nat × Int × List LB) : (lfB (epGt2 st) && lfC keepGt2) = true := by
  unfold epGt2
  by_cases g0 : st.1 = 0
  · rw [if_pos g0]; rfl
  rw [if_neg g0]
  rfl
noncomputable def DGt2 (z : List (LB × LB)) (nm : LB) (st : Nat × Int × List LB) (X : Nat → Value) : Cx := cx (nuX (nuGt2 z nm st) (rX (roGt2 z nm st) X)) (nuX_one (onGt2 z nm st)) 0 laidE laidE_stab
def InvGt2 (z : List (LB × LB)) (nm : LB) (st : Nat × Int × List LB) : Prop := (0 ≤ (st.2.1)) ∧ ((st.2.1) ≤ (z.length : Int)) ∧ (z.length ≤ 1000) ∧ (∀ q, q ∈ z → prB q) ∧ (nm.length ≤ 140737488351232 ∧ ∀ q, q ∈ z → q.1.length ≤ 140737488351232) ∧ ((st.2.2) = getS nm (z.take (Int.toNat (st.2.1)))) ∧ ((st.1) = 0 → (st.2.2) = []) ∧ ((st.1) = 1 → 1 ≤ (st.2.2).length) ∧ ((st.1) < 2)
abbrev CjGt2 (z : List (LB × LB)) (nm : LB) (tag : Nat) (i : Int) (O : List LB) : Prop := (0 ≤ i) ∧ (i ≤ (z.length : Int)) ∧ (z.length ≤ 1000) ∧ (∀ q, q ∈ z → prB q) ∧ (nm.length ≤ 140737488351232 ∧ ∀ q, q ∈ z → q.1.length ≤ 140737488351232) ∧ (O = getS nm (z.take (Int.toNat i))) ∧ (tag = 0 → O = []) ∧ (tag = 1 → 1 ≤ O.length) ∧ (tag < 2)
theorem mkIGt2 (z : List (LB × LB)) (nm : LB) (tag : Nat) (i : Int) (O : List LB) (h : CjGt2 z nm tag i O) : InvGt2 z nm (tag, i, O) := h
theorem unIGt2 (z : List (LB × LB)) (nm : LB) (tag : Nat) (i : Int) (O : List LB) (h : InvGt2 z nm (tag, i, O)) : (0 ≤ i) ∧ (i ≤ (z.length : Int)) ∧ (z.length ≤ 1000) ∧ (∀ q, q ∈ z → prB q) ∧ (nm.length ≤ 140737488351232 ∧ ∀ q, q ∈ z → q.1.length ≤ 140737488351232) ∧ (O = getS nm (z.take (Int.toNat i))) ∧ (tag = 0 → O = []) ∧ (tag = 1 → 1 ≤ O.length) ∧ (tag < 2) := h
def muGt2 (z : List (LB × LB)) (nm : LB) (st : Nat × Int × List LB) : Nat := (z.length - (st.2.1).toNat)
abbrev RHGt2 (z : List (LB × LB)) (nm : LB) (E' : Cx) (ex' : Ex) (epx' : LA) (hpx' : LE) (st : Nat × Int × List LB) (X : Nat → Value) : Prop := RoundH E' bodyGt2 keepGt2 25 ex' 4 165 166 205 epGt2 hpGt2 epx' hpx' (InvGt2 z nm) (muGt2 z nm) (DGt2 z nm) st X
noncomputable abbrev RNGt2_0 (h : LK) (x : Ex) (th : LA) (sg : List (Nat × Nat)) (m : Nat) (ep : LA) (hp : LE) : Bool := okRdH (code (tbl h) 3000 [] bodyGt2 (envOf (headOf epGt2_0 keepGt2) 25) ⟨lhSet hpGt2_0 .leaf, 166, 0, 0⟩) x keepGt2 25 205 th sg 165 m ep hp
theorem stGt2_0 (z : List (LB × LB)) (nm : LB) (i : Int) (O : List LB) {X : Nat → Value} {h : LK} (y : Nat × Int × List LB) {th : LA} {sg : List (Nat × Nat)} (ho : ∀ a' r', (a', r') ∈ h → HOk (cx (nuX (nuGt2_0 z nm i O) (rX (roGt2_0 z nm i O) X)) (nuX_one (nuL_one (l := nuGt2_0 z nm i O) rfl)) 0 laidE laidE_stab) a' r') (hy : InvGt2 z nm y) (lt : muGt2 z nm y < muGt2 z nm (0, i, O)) (ht : ThOk (cx (nuX (nuGt2_0 z nm i O) (rX (roGt2_0 z nm i O) X)) (nuX_one (nuL_one (l := nuGt2_0 z nm i O) rfl)) 0 laidE laidE_stab) (DGt2 z nm y X) th) (run : RNGt2_0 h .normal th sg 166 (epGt2 y) (hpGt2 y) = true) : RHGt2 z nm E' x' e' h' (0, i, O) X :=
  RoundH.next (tb := tbl h) (L := []) (f := 3000) y ((tabkOk _ _).hyps ho) (LpOk.nil _) rfl hy lt ht run
theorem lvGt2_0 (z : List (LB × LB)) (nm : LB) (i : Int) (O : List LB) {X : Nat → Value} {h : LK} {th : LA} {sg : List (Nat × Nat)} (hne : exB x' .normal = false) (ho : ∀ a' r', (a', r') ∈ h → HOk (cx (nuX (nuGt2_0 z nm i O) (rX (roGt2_0 z nm i O) X)) (nuX_one (nuL_one (l := nuGt2_0 z nm i O) rfl)) 0 laidE laidE_stab) a' r') (ht : ThOk (cx (nuX (nuGt2_0 z nm i O) (rX (roGt2_0 z nm i O) X)) (nuX_one (nuL_one (l := nuGt2_0 z nm i O) rfl)) 0 laidE laidE_stab) E' th) (run : RNGt2_0 h x' th sg 205 e' h' = true) : RHGt2 z nm E' x' e' h' (0, i, O) X :=
  RoundH.leave (tb := tbl h) (L := []) (f := 3000) ((tabkOk _ _).hyps ho) (LpOk.nil _) rfl hne ht run
noncomputable abbrev RNGt2_1 (h : LK) (x : Ex) (th : LA) (sg : List (Nat × Nat)) (m : Nat) (ep : LA) (hp : LE) : Bool := okRdH (code (tbl h) 3000 [] bodyGt2 (envOf (headOf epGt2_1 keepGt2) 25) ⟨lhSet hpGt2_1 .leaf, 166, 0, 0⟩) x keepGt2 25 205 th sg 165 m ep hp
theorem stGt2_1 (z : List (LB × LB)) (nm : LB) (i : Int) (O : List LB) {X : Nat → Value} {h : LK} (y : Nat × Int × List LB) {th : LA} {sg : List (Nat × Nat)} (ho : ∀ a' r', (a', r') ∈ h → HOk (cx (nuX (nuGt2_1 z nm i O) (rX (roGt2_1 z nm i O) X)) (nuX_one (nuL_one (l := nuGt2_1 z nm i O) rfl)) 0 laidE laidE_stab) a' r') (hy : InvGt2 z nm y) (lt : muGt2 z nm y < muGt2 z nm (1, i, O)) (ht : ThOk (cx (nuX (nuGt2_1 z nm i O) (rX (roGt2_1 z nm i O) X)) (nuX_one (nuL_one (l := nuGt2_1 z nm i O) rfl)) 0 laidE laidE_stab) (DGt2 z nm y X) th) (run : RNGt2_1 h .normal th sg 166 (epGt2 y) (hpGt2 y) = true) : RHGt2 z nm E' x' e' h' (1, i, O) X :=
  RoundH.next (tb := tbl h) (L := []) (f := 3000) y ((tabkOk _ _).hyps ho) (LpOk.nil _) rfl hy lt ht run
theorem lvGt2_1 (z : List (LB × LB)) (nm : LB) (i : Int) (O : List LB) {X : Nat → Value} {h : LK} {th : LA} {sg : List (Nat × Nat)} (hne : exB x' .normal = false) (ho : ∀ a' r', (a', r') ∈ h → HOk (cx (nuX (nuGt2_1 z nm i O) (rX (roGt2_1 z nm i O) X)) (nuX_one (nuL_one (l := nuGt2_1 z nm i O) rfl)) 0 laidE laidE_stab) a' r') (ht : ThOk (cx (nuX (nuGt2_1 z nm i O) (rX (roGt2_1 z nm i O) X)) (nuX_one (nuL_one (l := nuGt2_1 z nm i O) rfl)) 0 laidE laidE_stab) E' th) (run : RNGt2_1 h x' th sg 205 e' h' = true) : RHGt2 z nm E' x' e' h' (1, i, O) X :=
  RoundH.leave (tb := tbl h) (L := []) (f := 3000) ((tabkOk _ _).hyps ho) (LpOk.nil _) rfl hne ht run
def hyGt2_p0 : LK := [(.rn, .x 2000001), (.bin .lss (.x 2) (.x 1), .b true), (.el (.x 2000000) (.x 2) 2 0, .x 3), (.el (.x 2000000) (.x 2) 2 1, .x 4), (.call 43 [.x 3], .x 5), (.call 43 [.x 0], .x 6), (.bin .eql (.x 5) (.x 6), .b true), (.ra (.x 2000001) [.x 4], .x 2000002), (.rf (.x 2000002) 1 16, .b true), (.bin .add (.x 2) (.i .i64 (.ofNat 1)), .x 7)]
theorem runGt2_p0 : RNGt2_0 hyGt2_p0 .normal [(0, .x 0), (1, .x 1), (2, .x 7), (2000000, .x 2000000), (2000001, .x 2000002)] [(165, 168)] 166 epGt2_1 hpGt2_1 = true := by kernel_rfl
theorem nxGt2_p0 (z : List (LB × LB)) (nm : LB) (i : Int) (O : List LB) (X : Nat → Value) (hI : InvGt2 z nm (0, i, O)) (h0 : i < (z.length : Int)) (h1 : (lowS ((nthP z (Int.toNat (i))).1)) = (lowS nm)) : RHGt2 z nm E' x' e' h' (0, i, O) X := by
  obtain ⟨i0, i1, i2, i3, i4, i5, i6, i7, it⟩ := unIGt2 z nm 0 i O hI
  have hnm := nmAt i4.2 (Int.toNat i)
  have hO := congrArg List.length i5
  have hO2 := getS_len nm (z.take (Int.toNat i))
  have hO3 : (z.take (Int.toNat i)).length ≤ z.length := by rw [List.length_take]; omega
  have := prAt (l := z) (by assumption) (Int.toNat (i))
  have : (lowS ((nthP z (Int.toNat (i))).1)).length = ((nthP z (Int.toNat (i))).1).length := List.length_map ..
  have : (lowS nm).length = nm.length := List.length_map ..
  refine stGt2_0 z nm i O (h := hyGt2_p0) (1, i + 1, (([] : List LB) ++ [(nthP z (Int.toNat (i))).2])) ?_ (mkIGt2 z nm 1 (i + 1) (([] : List LB) ++ [(nthP z (Int.toNat (i))).2]) ⟨by omega, by omega, i2, i3, i4, by rw [getS_y (by omega) (by omega) (by assumption), ← i5, i6 (by omega)], fun h => by omega, fun _ => by simp, by omega⟩) (by show z.length - (i + 1).toNat < z.length - i.toNat; omega) (thXv (v := St' nm) rfl rfl (thXv (v := .int .i64 ((z.length : Int))) rfl rfl (thXi (b := ((i + 1))) rfl rfl (by omega) (thXv (v := rwG prC z) rfl rfl (thXv (v := rwS (([] : List LB) ++ [(nthP z (Int.toNat (i))).2])) rfl rfl (thNil)))))) runGt2_p0
  unfold hyGt2_p0
  exact hc (kRn (denX rfl)) <|
   hc (ltT rfl rfl (by omega)) <|
   hc (kElG (j := (Int.toNat (i))) (d := ([], [])) prC_len (by decide) (isX rfl) (isX rfl) (denX rfl) (by omega) (by omega) rfl) <|
   hc (kElG (j := (Int.toNat (i))) (d := ([], [])) prC_len (by decide) (isX rfl) (isX rfl) (denX rfl) (by omega) (by omega) rfl) <|
   hc (hokLower (s := (nthP z (Int.toNat (i))).1) (isX rfl) (denX rfl) (by omega) (by omega)) <|
   hc (hokLower (s := nm) (isX rfl) (denX rfl) (by omega) (by omega)) <|
   hc (kEqS (isX rfl) (isX rfl) (by first | exact decide_eq_true rfl | exact decide_eq_true ‹_› | exact decide_eq_false ‹_›)) <|
   hc (kRa (isX rfl) (isX rfl) (denX rfl)) <|
   hc (kRf (isX rfl) (by first | omega | (simp <;> omega)) (by first | omega | (simp <;> omega))) <|
   hc (adC rfl rfl (by omega)) <|
   hnil
def hyGt2_p1 : LK := [(.rn, .x 2000003), (.bin .lss (.x 2) (.x 1), .b false)]
theorem runGt2_p1 : RNGt2_0 hyGt2_p1 (.exit 0) [(2000000, .x 2000000)] [] 205 [(5, .nils)] [(4, .r 2000000 23 2 true)] = true := by kernel_rfl
def hyGt2_p2 : LK := [(.rn, .x 2000004), (.bin .lss (.x 2) (.x 1), .b true), (.el (.x 2000000) (.x 2) 2 0, .x 8), (.el (.x 2000000) (.x 2) 2 1, .x 9), (.call 43 [.x 8], .x 10), (.call 43 [.x 0], .x 11), (.bin .eql (.x 10) (.x 11), .b false), (.bin .add (.x 2) (.i .i64 (.ofNat 1)), .x 12)]
theorem runGt2_p2 : RNGt2_0 hyGt2_p2 .normal [(0, .x 0), (1, .x 1), (2, .x 12), (2000000, .x 2000000)] [] 166 epGt2_0 hpGt2_0 = true := by kernel_rfl
theorem nxGt2_p2 (z : List (LB × LB)) (nm : LB) (i : Int) (O : List LB) (X : Nat → Value) (hI : InvGt2 z nm (0, i, O)) (h0 : i < (z.length : Int)) (h1 : ¬ ((lowS ((nthP z (Int.toNat (i))).1)) = (lowS nm))) : RHGt2 z nm E' x' e' h' (0, i, O) X := by
  obtain ⟨i0, i1, i2, i3, i4, i5, i6, i7, it⟩ := unIGt2 z nm 0 i O hI
  have hnm := nmAt i4.2 (Int.toNat i)
  have hO := congrArg List.length i5
  have hO2 := getS_len nm (z.take (Int.toNat i))
  have hO3 : (z.take (Int.toNat i)).length ≤ z.length := by rw [List.length_take]; omega
  have := prAt (l := z) (by assumption) (Int.toNat (i))
  have : (lowS ((nthP z (Int.toNat (i))).1)).length = ((nthP z (Int.toNat (i))).1).length := List.length_map ..
  have : (lowS nm).length = nm.length := List.length_map ..
  refine stGt2_0 z nm i O (h := hyGt2_p2) (0, i + 1, ([] : List LB)) ?_ (mkIGt2 z nm 0 (i + 1) ([] : List LB) ⟨by omega, by omega, i2, i3, i4, by rw [getS_n (by omega) (by omega) (by assumption)]; exact (i6 (by omega)).symm.trans i5, fun _ => rfl, fun h => by omega, by omega⟩) (by show z.length - (i + 1).toNat < z.length - i.toNat; omega) (thXv (v := St' nm) rfl rfl (thXv (v := .int .i64 ((z.length : Int))) rfl rfl (thXi (b := ((i + 1))) rfl rfl (by omega) (thXv (v := rwG prC z) rfl rfl (thNil))))) runGt2_p2
  unfold hyGt2_p2
  exact hc (kRn (denX rfl)) <|
   hc (ltT rfl rfl (by omega)) <|
   hc (kElG (j := (Int.toNat (i))) (d := ([], [])) prC_len (by decide) (isX rfl) (isX rfl) (denX rfl) (by omega) (by omega) rfl) <|
   hc (kElG (j := (Int.toNat (i))) (d := ([], [])) prC_len (by decide) (isX rfl) (isX rfl) (denX rfl) (by omega) (by omega) rfl) <|
   hc (hokLower (s := (nthP z (Int.toNat (i))).1) (isX rfl) (denX rfl) (by omega) (by omega)) <|
   hc (hokLower (s := nm) (isX rfl) (denX rfl) (by omega) (by omega)) <|
   hc (kEqS (isX rfl) (isX rfl) (by first | exact decide_eq_true rfl | exact decide_eq_true ‹_› | exact decide_eq_false ‹_›)) <|
   hc (adC rfl rfl (by omega)) <|
   hnil
def hyGt2_p3 : LK := [(.rn, .x 2000002), (.bin .lss (.x 2) (.x 1), .b true), (.el (.x 2000000) (.x 2) 2 0, .x 3), (.el (.x 2000000) (.x 2) 2 1, .x 4), (.call 43 [.x 3], .x 5), (.call 43 [.x 0], .x 6), (.bin .eql (.x 5) (.x 6), .b true), (.ra (.x 2000001) [.x 4], .x 2000003), (.rf (.x 2000003) 1 16, .b true), (.bin .add (.x 2) (.i .i64 (.ofNat 1)), .x 7)]
theorem runGt2_p3 : RNGt2_1 hyGt2_p3 .normal [(0, .x 0), (1, .x 1), (2, .x 7), (2000000, .x 2000000), (2000001, .x 2000003)] [(165, 168)] 166 epGt2_1 hpGt2_1 = true := by kernel_rfl
theorem nxGt2_p3 (z : List (LB × LB)) (nm : LB) (i : Int) (O : List LB) (X : Nat → Value) (hI : InvGt2 z nm (1, i, O)) (h0 : i < (z.length : Int)) (h1 : (lowS ((nthP z (Int.toNat (i))).1)) = (lowS nm)) : RHGt2 z nm E' x' e' h' (1, i, O) X := by
  obtain ⟨i0, i1, i2, i3, i4, i5, i6, i7, it⟩ := unIGt2 z nm 1 i O hI
  have hnm := nmAt i4.2 (Int.toNat i)
  have hO := congrArg List.length i5
  have hO2 := getS_len nm (z.take (Int.toNat i))
  have hO3 : (z.take (Int.toNat i)).length ≤ z.length := by rw [List.length_take]; omega
  have := prAt (l := z) (by assumption) (Int.toNat (i))
  have : (lowS ((nthP z (Int.toNat (i))).1)).length = ((nthP z (Int.toNat (i))).1).length := List.length_map ..
  have : (lowS nm).length = nm.length := List.length_map ..
  refine stGt2_1 z nm i O (h := hyGt2_p3) (1, i + 1, (O ++ [(nthP z (Int.toNat (i))).2])) ?_ (mkIGt2 z nm 1 (i + 1) (O ++ [(nthP z (Int.toNat (i))).2]) ⟨by omega, by omega, i2, i3, i4, by rw [getS_y (by omega) (by omega) (by assumption), ← i5], fun h => by omega, fun _ => by simp, by omega⟩) (by show z.length - (i + 1).toNat < z.length - i.toNat; omega) (thXv (v := St' nm) rfl rfl (thXv (v := .int .i64 ((z.length : Int))) rfl rfl (thXi (b := ((i + 1))) rfl rfl (by omega) (thXv (v := rwG prC z) rfl rfl (thXv (v := rwS (O ++ [(nthP z (Int.toNat (i))).2])) rfl rfl (thNil)))))) runGt2_p3
  unfold hyGt2_p3
  exact hc (kRn (denX rfl)) <|
   hc (ltT rfl rfl (by omega)) <|
   hc (kElG (j := (Int.toNat (i))) (d := ([], [])) prC_len (by decide) (isX rfl) (isX rfl) (denX rfl) (by omega) (by omega) rfl) <|
   hc (kElG (j := (Int.toNat (i))) (d := ([], [])) prC_len (by decide) (isX rfl) (isX rfl) (denX rfl) (by omega) (by omega) rfl) <|
   hc (hokLower (s := (nthP z (Int.toNat (i))).1) (isX rfl) (denX rfl) (by omega) (by omega)) <|
   hc (hokLower (s := nm) (isX rfl) (denX rfl) (by omega) (by omega)) <|
   hc (kEqS (isX rfl) (isX rfl) (by first | exact decide_eq_true rfl | exact decide_eq_true ‹_› | exact decide_eq_false ‹_›)) <|
   hc (kRa (isX rfl) (isX rfl) (denX rfl)) <|
   hc (kRf (isX rfl) (by first | omega | (simp <;> omega)) (by first | omega | (simp <;> omega))) <|
   hc (adC rfl rfl (by omega)) <|
   hnil
def hyGt2_p4 : LK := [(.rn, .x 2000004), (.bin .lss (.x 2) (.x 1), .b false)]
theorem runGt2_p4 : RNGt2_1 hyGt2_p4 (.exit 0) [(2000000, .x 2000000), (2000001, .x 2000001)] [(165, 165)] 205 [(5, .sr 165)] [(4, .r 2000000 23 2 true), (165, .r 2000001 9 1 false)] = true := by kernel_rfl
def hyGt2_p5 : LK := [(.rn, .x 2000005), (.bin .lss (.x 2) (.x 1), .b true), (.el (.x 2000000) (.x 2) 2 0, .x 8), (.el (.x 2000000) (.x 2) 2 1, .x 9), (.call 43 [.x 8], .x 10), (.call 43 [.x 0], .x 11), (.bin .eql (.x 10) (.x 11), .b false), (.bin .add (.x 2) (.i .i64 (.ofNat 1)), .x 12)]
theorem runGt2_p5 : RNGt2_1 hyGt2_p5 .normal [(0, .x 0), (1, .x 1), (2, .x 12), (2000000, .x 2000000), (2000001, .x 2000001)] [(165, 165)] 166 epGt2_1 hpGt2_1 = true := by kernel_rfl
theorem nxGt2_p5 (z : List (LB × LB)) (nm : LB) (i : Int) (O : List LB) (X : Nat → Value) (hI : InvGt2 z nm (1, i, O)) (h0 : i < (z.length : Int)) (h1 : ¬ ((lowS ((nthP z (Int.toNat (i))).1)) = (lowS nm))) : RHGt2 z nm E' x' e' h' (1, i, O) X := by
  obtain ⟨i0, i1, i2, i3, i4, i5, i6, i7, it⟩ := unIGt2 z nm 1 i O hI
  have hnm := nmAt i4.2 (Int.toNat i)
  have hO := congrArg List.length i5
  have hO2 := getS_len nm (z.take (Int.toNat i))
  have hO3 : (z.take (Int.toNat i)).length ≤ z.length := by rw [List.length_take]; omega
  have := prAt (l := z) (by assumption) (Int.toNat (i))
  have : (lowS ((nthP z (Int.toNat (i))).1)).length = ((nthP z (Int.toNat (i))).1).length := List.length_map ..
  have : (lowS nm).length = nm.length := List.length_map ..
  refine stGt2_1 z nm i O (h := hyGt2_p5) (1, i + 1, O) ?_ (mkIGt2 z nm 1 (i + 1) O ⟨by omega, by omega, i2, i3, i4, by rw [getS_n (by omega) (by omega) (by assumption)]; exact i5, fun h => by omega, i7, by omega⟩) (by show z.length - (i + 1).toNat < z.length - i.toNat; omega) (thXv (v := St' nm) rfl rfl (thXv (v := .int .i64 ((z.length : Int))) rfl rfl (thXi (b := ((i + 1))) rfl rfl (by omega) (thXv (v := rwG prC z) rfl rfl (thXv (v := rwS O) rfl rfl (thNil)))))) runGt2_p5
  unfold hyGt2_p5
  exact hc (kRn (denX rfl)) <|
   hc (ltT rfl rfl (by omega)) <|
   hc (kElG (j := (Int.toNat (i))) (d := ([], [])) prC_len (by decide) (isX rfl) (isX rfl) (denX rfl) (by omega) (by omega) rfl) <|
   hc (kElG (j := (Int.toNat (i))) (d := ([], [])) prC_len (by decide) (isX rfl) (isX rfl) (denX rfl) (by omega) (by omega) rfl) <|
   hc (hokLower (s := (nthP z (Int.toNat (i))).1) (isX rfl) (denX rfl) (by omega) (by omega)) <|
   hc (hokLower (s := nm) (isX rfl) (denX rfl) (by omega) (by omega)) <|
   hc (kEqS (isX rfl) (isX rfl) (by first | exact decide_eq_true rfl | exact decide_eq_true ‹_› | exact decide_eq_false ‹_›)) <|
   hc (adC rfl rfl (by omega)) <|
   hnil
def nuEGt2_0 (z : List (LB × LB)) (nm : LB) : List Value := []
def roEGt2_0 (z : List (LB × LB)) (nm : LB) : List Value := [rwG prC z]
noncomputable def EGt2_0 (z : List (LB × LB)) (nm : LB) : Cx := cx (nuX (nuEGt2_0 z nm) (rX (roEGt2_0 z nm) (fun _ => .bool true))) (nuX_one (nuL_one (l := nuEGt2_0 z nm) rfl)) 0 laidE laidE_stab
theorem roundsGt2_0 (z : List (LB × LB)) (nm : LB) (x0 : getS nm z = []) (st : Nat × Int × List LB) (X : Nat → Value) (hI : InvGt2 z nm st) : RHGt2 z nm (EGt2_0 z nm) (.exit 0) [(5, .nils)] [(4, .r 2000000 23 2 true)] st X := by
  obtain ⟨tag, i, O⟩ := st
  have hI0 := hI
  obtain ⟨i0, i1, i2, i3, i4, i5, i6, i7, it⟩ := unIGt2 z nm tag i O hI
  rcases (show tag = 0 ∨ tag = 1 from by omega) with rfl | rfl
  · skip
    by_cases h0 : i < (z.length : Int)
    · by_cases h1 : (lowS ((nthP z (Int.toNat (i))).1)) = (lowS nm)
      · exact nxGt2_p0 z nm i O X hI0 h0 h1
      · exact nxGt2_p2 z nm i O X hI0 h0 h1
    · skip
      have hdx := getS_x (nm := nm) (z := z) (i := i) (by omega) (by omega)
      refine lvGt2_0 z nm i O (h := hyGt2_p1) rfl ?_ (thXv (v := rwG prC z) rfl rfl (thNil)) runGt2_p1
      unfold hyGt2_p1
      exact hc (kRn (denX rfl)) <|
       hc (ltF rfl rfl (by omega)) <|
       hnil
  · skip
    by_cases h0 : i < (z.length : Int)
    · by_cases h1 : (lowS ((nthP z (Int.toNat (i))).1)) = (lowS nm)
      · exact nxGt2_p3 z nm i O X hI0 h0 h1
      · exact nxGt2_p5 z nm i O X hI0 h0 h1
    · exfalso; have hdx := getS_x (nm := nm) (z := z) (i := i) (by omega) (by omega); have hL := i7 (by omega); rw [i5, hdx, x0] at hL; simp at hL
theorem lfOkGt2_0 {l : LF} {h : LH} (z : List (LB × LB)) (nm : LB) (x0 : getS nm z = []) (st : Nat × Int × List LB) (hI : InvGt2 z nm st) (hl : l.hp = some h) (hs : lfSame l h 25 keepGt2 (.exit 0) 4 165 205 = true) {th0 : LA} {sg0 : List (Nat × Nat)} (hth0 : ∀ X, ThOk (cx nu one 0 laidE laidE_stab) (DGt2 z nm st X) th0) (h0 : startOk l h 25 165 166 th0 sg0 (epGt2 st) (hpGt2 st) = true) {thx : LA} (hthx : ThOk (EGt2_0 z nm) (cx nu one 0 laidE laidE_stab) thx) (hx : exitOk l h 25 165 205 thx [(5, .nils)] [(4, .r 2000000 23 2 true)] = true) : LfOk (cx nu one 0 laidE laidE_stab) bodyGt2 l :=
  lfOkX (E := EGt2_0 z nm) (InvGt2 z nm) (muGt2 z nm) (DGt2 z nm) (fun _ _ => rfl) (fun _ _ => rfl) (fun _ _ => rfl) (fun st X t ht => nuX_keep.trans (rX_keep ((by decide : ∀ t, t ∈ keepGt2 → t < 1000000) t ht))) rfl rfl rfl hl hs ebGt2 rfl rfl st hI hth0 h0 hthx hx (roundsGt2_0 z nm x0)
def nuEGt2_1 (z : List (LB × LB)) (nm : LB) : List Value := []
def roEGt2_1 (z : List (LB × LB)) (nm : LB) : List Value := [rwG prC z, rwS (getS nm z)]
noncomputable def EGt2_1 (z : List (LB × LB)) (nm : LB) : Cx := cx (nuX (nuEGt2_1 z nm) (rX (roEGt2_1 z nm) (fun _ => .bool true))) (nuX_one (nuL_one (l := nuEGt2_1 z nm) rfl)) 0 laidE laidE_stab
theorem roundsGt2_1 (z : List (LB × LB)) (nm : LB) (x0 : 1 ≤ (getS nm z).length) (st : Nat × Int × List LB) (X : Nat → Value) (hI : InvGt2 z nm st) : RHGt2 z nm (EGt2_1 z nm) (.exit 0) [(5, .sr 165)] [(4, .r 2000000 23 2 true), (165, .r 2000001 9 1 false)] st X := by
  obtain ⟨tag, i, O⟩ := st
  have hI0 := hI
  obtain ⟨i0, i1, i2, i3, i4, i5, i6, i7, it⟩ := unIGt2 z nm tag i O hI
  rcases (show tag = 0 ∨ tag = 1 from by omega) with rfl | rfl
  · skip
    by_cases h0 : i < (z.length : Int)
    · by_cases h1 : (lowS ((nthP z (Int.toNat (i))).1)) = (lowS nm)
      · exact nxGt2_p0 z nm i O X hI0 h0 h1
      · exact nxGt2_p2 z nm i O X hI0 h0 h1
    · exfalso; have hdx := getS_x (nm := nm) (z := z) (i := i) (by omega) (by omega); have hO := i6 (by omega); rw [hO, hdx] at i5; rw [← i5] at x0; simp at x0
  · skip
    by_cases h0 : i < (z.length : Int)
    · by_cases h1 : (lowS ((nthP z (Int.toNat (i))).1)) = (lowS nm)
      · exact nxGt2_p3 z nm i O X hI0 h0 h1
      · exact nxGt2_p5 z nm i O X hI0 h0 h1
    · skip
      have hdx := getS_x (nm := nm) (z := z) (i := i) (by omega) (by omega)
      refine lvGt2_1 z nm i O (h := hyGt2_p4) rfl ?_ (thXv (v := rwG prC z) rfl rfl (thXe (v := rwS O) (u := rwS (getS nm z)) rfl rfl (congrArg (rwS) (i5.trans hdx)) (thNil))) runGt2_p4
      unfold hyGt2_p4
      exact hc (kRn (denX rfl)) <|
       hc (ltF rfl rfl (by omega)) <|
       hnil
theorem lfOkGt2_1 {l : LF} {h : LH} (z : List (LB × LB)) (nm : LB) (x0 : 1 ≤ (getS nm z).length) (st : Nat × Int × List LB) (hI : InvGt2 z nm st) (hl : l.hp = some h) (hs : lfSame l h 25 keepGt2 (.exit 0) 4 165 205 = true) {th0 : LA} {sg0 : List (Nat × Nat)} (hth0 : ∀ X, ThOk (cx nu one 0 laidE laidE_stab) (DGt2 z nm st X) th0) (h0 : startOk l h 25 165 166 th0 sg0 (epGt2 st) (hpGt2 st) = true) {thx : LA} (hthx : ThOk (EGt2_1 z nm) (cx nu one 0 laidE laidE_stab) thx) (hx : exitOk l h 25 165 205 thx [(5, .sr 165)] [(4, .r 2000000 23 2 true), (165, .r 2000001 9 1 false)] = true) : LfOk (cx nu one 0 laidE laidE_stab) bodyGt2 l :=
  lfOkX (E := EGt2_1 z nm) (InvGt2 z nm) (muGt2 z nm) (DGt2 z nm) (fun _ _ => rfl) (fun _ _ => rfl) (fun _ _ => rfl) (fun st X t ht => nuX_keep.trans (rX_keep ((by decide : ∀ t, t ∈ keepGt2 → t < 1000000) t ht))) rfl rfl rfl hl hs ebGt2 rfl rfl st hI hth0 h0 hthx hx (roundsGt2_1 z nm x0)
noncomputable def bodyGt3 : Code := loopNo (Tryd.f10.body.getD .skip) 0
theorem keyGt3 : oneKey (loopsOf (Tryd.f10.body.getD .skip)) 3 0 0 = true := by kernel_rfl
def keepGt3 : List Nat := []
def epGt3_0 : LA := [(1, .x 0), (5, .nils), (8, .sr 4), (9, .x 1), (10, .x 2)]
def hpGt3_0 : LE := [(4, .r 2000000 23 2 true)]
def nuGt3_0 (z : List (LB × LB)) (nm : LB) (i : Int) (O : List LB) : List Value := [St' nm, .int .i64 ((z.length : Int)), .int .i64 (i), St' ((nthP z (Int.toNat (i))).1), St' ((nthP z (Int.toNat (i))).2), St' (lowS ((nthP z (Int.toNat (i))).1)), St' (lowS nm), .int .i64 (i + 1), St' ((nthP z (Int.toNat (i))).1), St' ((nthP z (Int.toNat (i))).2), St' (lowS ((nthP z (Int.toNat (i))).1)), St' (lowS nm), .int .i64 (i + 1)]
def roGt3_0 (z : List (LB × LB)) (nm : LB) (i : Int) (O : List LB) : List Value := [rwG prC z, rwS ([] : List LB), rwS (([] : List LB) ++ [(nthP z (Int.toNat (i))).2]), rwS ([] : List LB), rwS ([] : List LB)]
def epGt3_1 : LA := [(1, .x 0), (5, .sr 115), (8, .sr 4), (9, .x 1), (10, .x 2)]
def hpGt3_1 : LE := [(4, .r 2000000 23 2 true), (115, .r 2000001 9 1 false)]
def nuGt3_1 (z : List (LB × LB)) (nm : LB) (i : Int) (O : List LB) : List Value := [St' nm, .int .i64 ((z.length : Int)), .int .i64 (i), St' ((nthP z (Int.toNat (i))).1), St' ((nthP z (Int.toNat (i))).2), St' (lowS ((nthP z (Int.toNat (i))).1)), St' (lowS nm), .int .i64 (i + 1), St' ((nthP z (Int.toNat (i))).1), St' ((nthP z (Int.toNat (i))).2), St' (lowS ((nthP z (Int.toNat (i))).1)), St' (lowS nm), .int .i64 (i + 1)]
def roGt3_1 (z : List (LB × LB)) (nm : LB) (i : Int) (O : List LB) : List Value := [rwG prC z, rwS O, rwS ([] : List LB), rwS (O ++ [(nthP z (Int.toNat (i))).2]), rwS ([] : List LB), rwS ([] : List LB)]
def epGt3 (st : Nat × Int × List LB) : LA := if st.1 = 0 then epGt3_0 else epGt3_1
def hpGt3 (st : Nat × Int × List LB) : LE := if st.1 = 0 then hpGt3_0 else hpGt3_1
def nuGt3 (z : List (LB × LB)) (nm : LB) (st : Nat × Int × List LB) : List Value := if st.1 = 0 then nuGt3_0 z nm (st.2.1) (st.2.2) else nuGt3_1 z nm (st.2.1) (st.2.2)
def roGt3 (z : List (LB × LB)) (nm : LB) (st : Nat × Int × List LB) : List Value := if st.1 = 0 then roGt3_0 z nm (st.2.1) (st.2.2) else roGt3_1 z nm (st.2.1) (st.2.2)
theorem onGt3 (z : List (LB × LB)) (nm : LB) (st : Nat × Int × List LB) : ∀ j, (nuL (nuGt3 z nm st) j).oneCell' = true := by
  intro j
  unfold nuGt3
  by_cases g0 : st.1 = 0
  · rw [if_pos g0]; exact nuL_one (l := nuGt3_0 z nm (st.2.1) (st.2.2)) rfl j
  rw [if_neg g0]
  exact nuL_one (l := nuGt3_1 z nm (st.2.1) (st.2.2)) rfl j
theorem ebGt3 (st : Nat × Int × List LB) : (lfB (epGt3 st) && lfC keepGt3) = true := by
  unfold epGt3
  by_cases g0 : st.1 = 0
  · rw [if_pos g0]; rfl
  rw [if_neg g0]
  rfl
noncomputable def DGt3 (z : List (LB × LB)) (nm : LB) (st : Nat × Int × List LB) (X : Nat → Value) : Cx := cx (nuX (nuGt3 z nm st) (rX (roGt3 z nm st) X)) (nuX_one (onGt3 z nm st)) 0 laidE laidE_stab
def InvGt3 (z : List (LB × LB)) (nm : LB) (st : Nat × Int × List LB) : Prop := (0 ≤ (st.2.1)) ∧ ((st.2.1) ≤ (z.length : Int)) ∧ (z.length ≤ 1000) ∧ (∀ q, q ∈ z → prB q) ∧ (nm.length ≤ 140737488351232 ∧ ∀ q, q ∈ z → q.1.length ≤ 140737488351232) ∧ ((st.2.2) = getS nm (z.take (Int.toNat (st.2.1)))) ∧ ((st.1) = 0 → (st.2.2) = []) ∧ ((st.1) = 1 → 1 ≤ (st.2.2).length) ∧ ((st.1) < 2)
abbrev CjGt3 (z : List (LB × LB)) (nm : LB) (tag : Nat) (i : Int) (O : List LB) : Prop := (0 ≤ i) ∧ (i ≤ (z.length : Int)) ∧ (z.length ≤ 1000) ∧ (∀ q, q ∈ z → prB q) ∧ (nm.length ≤ 140737488351232 ∧ ∀ q, q ∈ z → q.1.length ≤ 140737488351232) ∧ (O = getS nm (z.take (Int.toNat i))) ∧ (tag = 0 → O = []) ∧ (tag = 1 → 1 ≤ O.length) ∧ (tag < 2)
theorem mkIGt3 (z : List (LB × LB)) (nm : LB) (tag : Nat) (i : Int) (O : List LB) (h : CjGt3 z nm tag i O) : InvGt3 z nm (tag, i, O) := h
theorem unIGt3 (z : List (LB × LB)) (nm : LB) (tag : Nat) (i : Int) (O : List LB) (h : InvGt3 z nm (tag, i, O)) : (0 ≤ i) ∧ (i ≤ (z.length : Int)) ∧ (z.length ≤ 1000) ∧ (∀ q, q ∈ z → prB q) ∧ (nm.length ≤ 140737488351232 ∧ ∀ q, q ∈ z → q.1.length ≤ 140737488351232) ∧ (O = getS nm (z.take (Int.toNat i))) ∧ (tag = 0 → O = []) ∧ (tag = 1 → 1 ≤ O.length) ∧ (tag < 2) := h
def muGt3 (z : List (LB × LB)) (nm : LB) (st : Nat × Int × List LB) : Nat := (z.length - (st.2.1).toNat)
abbrev RHGt3 (z : List (LB × LB)) (nm : LB) (E' : Cx) (ex' : Ex) (epx' : LA) (hpx' : LE) (st : Nat × Int × List LB) (X : Nat → Value) : Prop := RoundH E' bodyGt3 keepGt3 25 ex' 4 115 116 155 epGt3 hpGt3 epx' hpx' (InvGt3 z nm) (muGt3 z nm) (DGt3 z nm) st X
noncomputable abbrev RNGt3_0 (h : LK) (x : Ex) (th : LA) (sg : List (Nat × Nat)) (m : Nat) (ep : LA) (hp : LE) : Bool := okRdH (code (tbl h) 3000 [] bodyGt3 (envOf (headOf epGt3_0 keepGt3) 25) ⟨lhSet hpGt3_0 .leaf, 116, 0, 0⟩) x keepGt3 25 155 th sg 115 m ep hp
theorem stGt3_0 (z : List (LB × LB)) (nm : LB) (i : Int) (O : List LB) {X : Nat → Value} {h : LK} (y : Nat × Int × List LB) {th : LA} {sg : List (Nat × Nat)} (ho : ∀ a' r', (a', r') ∈ h → HOk (cx (nuX (nuGt3_0 z nm i O) (rX (roGt3_0 z nm i O) X)) (nuX_one (nuL_one (l := nuGt3_0 z nm i O) rfl)) 0 laidE laidE_stab) a' r') (hy : InvGt3 z nm y) (lt : muGt3 z nm y < muGt3 z nm (0, i, O)) (ht : ThOk (cx (nuX (nuGt3_0 z nm i O) (rX (roGt3_0 z nm i O) X)) (nuX_one (nuL_one (l := nuGt3_0 z nm i O) rfl)) 0 laidE laidE_stab) (DGt3 z nm y X) th) (run : RNGt3_0 h .normal th sg 116 (epGt3 y) (hpGt3 y) = true) : RHGt3 z nm E' x' e' h' (0, i, O) X :=
  RoundH.next (tb := tbl h) (L := []) (f := 3000) y ((tabkOk _ _).hyps ho) (LpOk.nil _) rfl hy lt ht run
theorem lvGt3_0 (z : List (LB × LB)) (nm : LB) (i : Int) (O : List LB) {X : Nat → Value} {h : LK} {th : LA} {sg : List (Nat × Nat)} (hne : exB x' .normal = false) (ho : ∀ a' r', (a', r') ∈ h → HOk (cx (nuX (nuGt3_0 z nm i O) (rX (roGt3_0 z nm i O) X)) (nuX_one (nuL_one (l := nuGt3_0 z nm i O) rfl)) 0 laidE laidE_stab) a' r') (ht : ThOk (cx (nuX (nuGt3_0 z nm i O) (rX (roGt3_0 z nm i O) X)) (nuX_one (nuL_one (l := nuGt3_0 z nm i O) rfl)) 0 laidE laidE_stab) E' th) (run : RNGt3_0 h x' th sg 155 e' h' = true) : RHGt3 z nm E' x' e' h' (0, i, O) X :=
  RoundH.leave (tb := tbl h) (L := []) (f := 3000) ((tabkOk _ _).hyps ho) (LpOk.nil _) rfl hne ht run
noncomputable abbrev RNGt3_1 (h : LK) (x : Ex) (th : LA) (sg : List (Nat × Nat)) (m : Nat) (ep : LA) (hp : LE) : Bool := okRdH (code (tbl h) 3000 [] bodyGt3 (envOf (headOf epGt3_1 keepGt3) 25) ⟨lhSet hpGt3_1 .leaf, 116, 0, 0⟩) x keepGt3 25 155 th sg 115 m ep hp
theorem stGt3_1 (z : List (LB × LB)) (nm : LB) (i : Int) (O : List LB) {X : Nat → Value} {h : LK} (y : Nat × Int × List LB) {th : LA} {sg : List (Nat × Nat)} (ho : ∀ a' r', (a', r') ∈ h → HOk (cx (nuX (nuGt3_1 z nm i O) (rX (roGt3_1 z nm i O) X)) (nuX_one (nuL_one (l := nuGt3_1 z nm i O) rfl)) 0 laidE laidE_stab) a' r') (hy : InvGt3 z nm y) (lt : muGt3 z nm y < muGt3 z nm (1, i, O)) (ht : ThOk (cx (nuX (nuGt3_1 z nm i O) (rX (roGt3_1 z nm i O) X)) (nuX_one (nuL_one (l := nuGt3_1 z nm i O) rfl)) 0 laidE laidE_stab) (DGt3 z nm y X) th) (run : RNGt3_1 h .normal th sg 116 (epGt3 y) (hpGt3 y) = true) : RHGt3 z nm E' x' e' h' (1, i, O) X :=
  RoundH.next (tb := tbl h) (L := []) (f := 3000) y ((tabkOk _ _).hyps ho) (LpOk.nil _) rfl hy lt ht run
theorem lvGt3_1 (z : List (LB × LB)) (nm : LB) (i : Int) (O : List LB) {X : Nat → Value} {h : LK} {th : LA} {sg : List (Nat × Nat)} (hne : exB x' .normal = false) (ho : ∀ a' r', (a', r') ∈ h → HOk (cx (nuX (nuGt3_1 z nm i O) (rX (roGt3_1 z nm i O) X)) (nuX_one (nuL_one (l := nuGt3_1 z nm i O) rfl)) 0 laidE laidE_stab) a' r') (ht : ThOk (cx (nuX (nuGt3_1 z nm i O) (rX (roGt3_1 z nm i O) X)) (nuX_one (nuL_one (l := nuGt3_1 z nm i O) rfl)) 0 laidE laidE_stab) E' th) (run : RNGt3_1 h x' th sg 155 e' h' = true) : RHGt3 z nm E' x' e' h' (1, i, O) X :=
  RoundH.leave (tb := tbl h) (L := []) (f := 3000) ((tabkOk _ _).hyps ho) (LpOk.nil _) rfl hne ht run
def hyGt3_p0 : LK := [(.rn, .x 2000001), (.bin .lss (.x 2) (.x 1), .b true), (.el (.x 2000000) (.x 2) 2 0, .x 3), (.el (.x 2000000) (.x 2) 2 1, .x 4), (.call 43 [.x 3], .x 5), (.call 43 [.x 0], .x 6), (.bin .eql (.x 5) (.x 6), .b true), (.ra (.x 2000001) [.x 4], .x 2000002), (.rf (.x 2000002) 1 16, .b true), (.bin .add (.x 2) (.i .i64 (.ofNat 1)), .x 7)]
theorem runGt3_p0 : RNGt3_0 hyGt3_p0 .normal [(0, .x 0), (1, .x 1), (2, .x 7), (2000000, .x 2000000), (2000001, .x 2000002)] [(115, 118)] 116 epGt3_1 hpGt3_1 = true := by kernel_rfl
theorem nxGt3_p0 (z : List (LB × LB)) (nm : LB) (i : Int) (O : List LB) (X : Nat → Value) (hI : InvGt3 z nm (0, i, O)) (h0 : i < (z.length : Int)) (h1 : (lowS ((nthP z (Int.toNat (i))).1)) = (lowS nm)) : RHGt3 z nm E' x' e' h' (0, i, O) X := by
  obtain ⟨i0, i1, i2, i3, i4, i5, i6, i7, it⟩ := unIGt3 z nm 0 i O hI
  have hnm := nmAt i4.2 (Int.toNat i)
  have hO := congrArg List.length i5
  have hO2 := getS_len nm (z.take (Int.toNat i))
  have hO3 : (z.take (Int.toNat i)).length ≤ z.length := by rw [List.length_take]; omega
  have := prAt (l := z) (by assumption) (Int.toNat (i))
  have : (lowS ((nthP z (Int.toNat (i))).1)).length = ((nthP z (Int.toNat (i))).1).length := List.length_map ..
  have : (lowS nm).length = nm.length := List.length_map ..
  refine stGt3_0 z nm i O (h := hyGt3_p0) (1, i + 1, (([] : List LB) ++ [(nthP z (Int.toNat (i))).2])) ?_ (mkIGt3 z nm 1 (i + 1) (([] : List LB) ++ [(nthP z (Int.toNat (i))).2]) ⟨by omega, by omega, i2, i3, i4, by rw [getS_y (by omega) (by omega) (by assumption), ← i5, i6 (by omega)], fun h => by omega, fun _ => by simp, by omega⟩) (by show z.length - (i + 1).toNat < z.length - i.toNat; omega) (thXv (v := St' nm) rfl rfl (thXv (v := .int .i64 ((z.length : Int))) rfl rfl (thXi (b := ((i + 1))) rfl rfl (by omega) (thXv (v := rwG prC z) rfl rfl (thXv (v := rwS (([] : List LB) ++ [(nthP z (Int.toNat (i))).2])) rfl rfl (thNil)))))) runGt3_p0
  unfold hyGt3_p0
  exact hc (kRn (denX rfl)) <|
   hc (ltT rfl rfl (by omega)) <|
   hc (kElG (j := (Int.toNat (i))) (d := ([], [])) prC_len (by decide) (isX rfl) (isX rfl) (denX rfl) (by omega) (by omega) rfl) <|
   hc (kElG (j := (Int.toNat (i))) (d := ([], [])) prC_len (by decide) (isX rfl) (isX rfl) (denX rfl) (by omega) (by omega) rfl) <|
   hc (hokLower (s := (nthP z (Int.toNat (i))).1) (isX rfl) (denX rfl) (by omega) (by omega)) <|
   hc (hokLower (s := nm) (isX rfl) (denX rfl) (by omega) (by omega)) <|
   hc (kEqS (isX rfl) (isX rfl) (by first | exact decide_eq_true rfl | exact decide_eq_true ‹_› | exact decide_eq_false ‹_›)) <|
   hc (kRa (isX rfl) (isX rfl) (denX rfl)) <|
   hc (kRf (isX rfl) (by first | omega | (simp <;> omega)) (by first | omega | (simp <;> omega))) <|
   hc (adC rfl rfl (by omega)) <|
   hnil
def hyGt3_p1 : LK := [(.rn, .x 2000003), (.bin .lss (.x 2) (.x 1), .b false)]
theorem runGt3_p1 : RNGt3_0 hyGt3_p1 (.exit 0) [(2000000, .x 2000000)] [] 155 [(5, .nils)] [(4, .r 2000000 23 2 true)] = true := by kernel_rfl
def hyGt3_p2 : LK := [(.rn, .x 2000004), (.bin .lss (.x 2) (.x 1), .b true), (.el (.x 2000000) (.x 2) 2 0, .x 8), (.el (.x 2000000) (.x 2) 2 1, .x 9), (.call 43 [.x 8], .x 10), (.call 43 [.x 0], .x 11), (.bin .eql (.x 10) (.x 11), .b false), (.bin .add (.x 2) (.i .i64 (.ofNat 1)), .x 12)]
theorem runGt3_p2 : RNGt3_0 hyGt3_p2 .normal [(0, .x 0), (1, .x 1), (2, .x 12), (2000000, .x 2000000)] [] 116 epGt3_0 hpGt3_0 = true := by kernel_rfl
theorem nxGt3_p2 (z : List (LB × LB)) (nm : LB) (i : Int) (O : List LB) (X : Nat → Value) (hI : InvGt3 z nm (0, i, O)) (h0 : i < (z.length : Int)) (h1 : ¬ ((lowS ((nthP z (Int.toNat (i))).1)) = (lowS nm))) : RHGt3 z nm E' x' e' h' (0, i, O) X := by
  obtain ⟨i0, i1, i2, i3, i4, i5, i6, i7, it⟩ := unIGt3 z nm 0 i O hI
  have hnm := nmAt i4.2 (Int.toNat i)
  have hO := congrArg List.length i5
  have hO2 := getS_len nm (z.take (Int.toNat i))
  have hO3 : (z.take (Int.toNat i)).length ≤ z.length := by rw [List.length_take]; omega
  have := prAt (l := z) (by assumption) (Int.toNat (i))
  have : (lowS ((nthP z (Int.toNat (i))).1)).length = ((nthP z (Int.toNat (i))).1).length := List.length_map ..
  have : (lowS nm).length = nm.length := List.length_map ..
  refine stGt3_0 z nm i O (h := hyGt3_p2) (0, i + 1, ([] : List LB)) ?_ (mkIGt3 z nm 0 (i + 1) ([] : List LB) ⟨by omega, by omega, i2, i3, i4, by rw [getS_n (by omega) (by omega) (by assumption)]; exact (i6 (by omega)).symm.trans i5, fun _ => rfl, fun h => by omega, by omega⟩) (by show z.length - (i + 1).toNat < z.length - i.toNat; omega) (thXv (v := St' nm) rfl rfl (thXv (v := .int .i64 ((z.length : Int))) rfl rfl (thXi (b := ((i + 1))) rfl rfl (by omega) (thXv (v := rwG prC z) rfl rfl (thNil))))) runGt3_p2
  unfold hyGt3_p2
  exact hc (kRn (denX rfl)) <|
   hc (ltT rfl rfl (by omega)) <|
   hc (kElG (j := (Int.toNat (i))) (d := ([], [])) prC_len (by decide) (isX rfl) (isX rfl) (denX rfl) (by omega) (by omega) rfl) <|
   hc (kElG (j := (Int.toNat (i))) (d := ([], [])) prC_len (by decide) (isX rfl) (isX rfl) (denX rfl) (by omega) (by omega) rfl) <|
   hc (hokLower (s := (nthP z (Int.toNat (i))).1) (isX rfl) (denX rfl) (by omega) (by omega)) <|
   hc (hokLower (s := nm) (isX rfl) (denX rfl) (by omega) (by omega)) <|
   hc (kEqS (isX rfl) (isX rfl) (by first | exact decide_eq_true rfl | exact decide_eq_true ‹_› | exact decide_eq_false ‹_›)) <|
   hc (adC rfl rfl (by omega)) <|
   hnil
def hyGt3_p3 : LK := [(.rn, .x 2000002), (.bin .lss (.x 2) (.x 1), .b true), (.el (.x 2000000) (.x 2) 2 0, .x 3), (.el (.x 2000000) (.x 2) 2 1, .x 4), (.call 43 [.x 3], .x 5), (.call 43 [.x 0], .x 6), (.bin .eql (.x 5) (.x 6), .b true), (.ra (.x 2000001) [.x 4], .x 2000003), (.rf (.x 2000003) 1 16, .b true), (.bin .add (.x 2) (.i .i64 (.ofNat 1)), .x 7)]
theorem runGt3_p3 : RNGt3_1 hyGt3_p3 .normal [(0, .x 0), (1, .x 1), (2, .x 7), (2000000, .x 2000000), (2000001, .x 2000003)] [(115, 118)] 116 epGt3_1 hpGt3_1 = true := by kernel_rfl
theorem nxGt3_p3 (z : List (LB × LB)) (nm : LB) (i : Int) (O : List LB) (X : Nat → Value) (hI : InvGt3 z nm (1, i, O)) (h0 : i < (z.length : Int)) (h1 : (lowS ((nthP z (Int.toNat (i))).1)) = (lowS nm)) : RHGt3 z nm E' x' e' h' (1, i, O) X := by
  obtain ⟨i0, i1, i2, i3, i4, i5, i6, i7, it⟩ := unIGt3 z nm 1 i O hI
  have hnm := nmAt i4.2 (Int.toNat i)
  have hO := congrArg List.length i5
  have hO2 := getS_len nm (z.take (Int.toNat i))
  have hO3 : (z.take (Int.toNat i)).length ≤ z.length := by rw [List.length_take]; omega
  have := prAt (l := z) (by assumption) (Int.toNat (i))
  have : (lowS ((nthP z (Int.toNat (i))).1)).length = ((nthP z (Int.toNat (i))).1).length := List.length_map ..
  have : (lowS nm).length = nm.length := List.length_map ..
  refine stGt3_1 z nm i O (h := hyGt3_p3) (1, i + 1, (O ++ [(nthP z (Int.toNat (i))).2])) ?_ (mkIGt3 z nm 1 (i + 1) (O ++ [(nthP z (Int.toNat (i))).2]) ⟨by omega, by omega, i2, i3, i4, by rw [getS_y (by omega) (by omega) (by assumption), ← i5], fun h => by omega, fun _ => by simp, by omega⟩) (by show z.length - (i + 1).toNat < z.length - i.toNat; omega) (thXv (v := St' nm) rfl rfl (thXv (v := .int .i64 ((z.length : Int))) rfl rfl (thXi (b := ((i + 1))) rfl rfl (by omega) (thXv (v := rwG prC z) rfl rfl (thXv (v := rwS (O ++ [(nthP z (Int.toNat (i))).2])) rfl rfl (thNil)))))) runGt3_p3
  unfold hyGt3_p3
  exact hc (kRn (denX rfl)) <|
   hc (ltT rfl rfl (by omega)) <|
   hc (kElG (j := (Int.toNat (i))) (d := ([], [])) prC_len (by decide) (isX rfl) (isX rfl) (denX rfl) (by omega) (by omega) rfl) <|
   hc (kElG (j := (Int.toNat (i))) (d := ([], [])) prC_len (by decide) (isX rfl) (isX rfl) (denX rfl) (by omega) (by omega) rfl) <|
   hc (hokLower (s := (nthP z (Int.toNat (i))).1) (isX rfl) (denX rfl) (by omega) (by omega)) <|
   hc (hokLower (s := nm) (isX rfl) (denX rfl) (by omega) (by omega)) <|
   hc (kEqS (isX rfl) (isX rfl) (by first | exact decide_eq_true rfl | exact decide_eq_true ‹_› | exact decide_eq_false ‹_›)) <|
   hc (kRa (isX rfl) (isX rfl) (denX rfl)) <|
   hc (kRf (isX rfl) (by first | omega | (simp <;> omega)) (by first | omega | (simp <;> omega))) <|
   hc (adC rfl rfl (by omega)) <|
   hnil
def hyGt3_p4 : LK := [(.rn, .x 2000004), (.bin .lss (.x 2) (.x 1), .b false)]
theorem runGt3_p4 : RNGt3_1 hyGt3_p4 (.exit 0) [(2000000, .x 2000000), (2000001, .x 2000001)] [(115, 115)] 155 [(5, .sr 115)] [(4, .r 2000000 23 2 true), (115, .r 2000001 9 1 false)] = true := by kernel_rfl
def hyGt3_p5 : LK := [(.rn, .x 2000005), (.bin .lss (.x 2) (.x 1), .b true), (.el (.x 2000000) (.x 2) 2 0, .x 8), (.el (.x 2000000) (.x 2) 2 1, .x 9), (.call 43 [.x 8], .x 10), (.call 43 [.x 0], .x 11), (.bin .eql (.x 10) (.x 11), .b false), (.bin .add (.x 2) (.i .i64 (.ofNat 1)), .x 12)]
theorem runGt3_p5 : RNGt3_1 hyGt3_p5 .normal [(0, .x 0), (1, .x 1), (2, .x 12), (2000000, .x 2000000), (2000001, .x 2000001)] [(115, 115)] 116 epGt3_1 hpGt3_1 = true := by kernel_rfl
theorem nxGt3_p5 (z : List (LB × LB)) (nm : LB) (i : Int) (O : List LB) (X : Nat → Value) (hI : InvGt3 z nm (1, i, O)) (h0 : i < (z.length : Int)) (h1 : ¬ ((lowS ((nthP z (Int.toNat (i))).1)) = (lowS nm))) : RHGt3 z nm E' x' e' h' (1, i, O) X := by
  obtain ⟨i0, i1, i2, i3, i4, i5, i6, i7, it⟩ := unIGt3 z nm 1 i O hI
  have hnm := nmAt i4.2 (Int.toNat i)
  have hO := congrArg List.length i5
  have hO2 := getS_len nm (z.take (Int.toNat i))
  have hO3 : (z.take (Int.toNat i)).length ≤ z.length := by rw [List.length_take]; omega
  have := prAt (l := z) (by assumption) (Int.toNat (i))
  have : (lowS ((nthP z (Int.toNat (i))).1)).length = ((nthP z (Int.toNat (i))).1).length := List.length_map ..
  have : (lowS nm).length = nm.length := List.length_map ..
  refine stGt3_1 z nm i O (h := hyGt3_p5) (1, i + 1, O) ?_ (mkIGt3 z nm 1 (i + 1) O ⟨by omega, by omega, i2, i3, i4, by rw [getS_n (by omega) (by omega) (by assumption)]; exact i5, fun h => by omega, i7, by omega⟩) (by show z.length - (i + 1).toNat < z.length - i.toNat; omega) (thXv (v := St' nm) rfl rfl (thXv (v := .int .i64 ((z.length : Int))) rfl rfl (thXi (b := ((i + 1))) rfl rfl (by omega) (thXv (v := rwG prC z) rfl rfl (thXv (v := rwS O) rfl rfl (thNil)))))) runGt3_p5
  unfold hyGt3_p5
  exact hc (kRn (denX rfl)) <|
   hc (ltT rfl rfl (by omega)) <|
   hc (kElG (j := (Int.toNat (i))) (d := ([], [])) prC_len (by decide) (isX rfl) (isX rfl) (denX rfl) (by omega) (by omega) rfl) <|
   hc (kElG (j := (Int.toNat (i))) (d := ([], [])) prC_len (by decide) (isX rfl) (isX rfl) (denX rfl) (by omega) (by omega) rfl) <|
   hc (hokLower (s := (nthP z (Int.toNat (i))).1) (isX rfl) (denX rfl) (by omega) (by omega)) <|
   hc (hokLower (s := nm) (isX rfl) (denX rfl) (by omega) (by omega)) <|
   hc (kEqS (isX rfl) (isX rfl) (by first | exact decide_eq_true rfl | exact decide_eq_true ‹_› | exact decide_eq_false ‹_›)) <|
   hc (adC rfl rfl (by omega)) <|
   hnil
def nuEGt3_0 (z : List (LB × LB)) (nm : LB) : List Value := []
def roEGt3_0 (z : List (LB × LB)) (nm : LB) : List Value := [rwG prC z]
noncomputable def EGt3_0 (z : List (LB × LB)) (nm : LB) : Cx := cx (nuX (nuEGt3_0 z nm) (rX (roEGt3_0 z nm) (fun _ => .bool true))) (nuX_one (nuL_one (l := nuEGt3_0 z nm) rfl)) 0 laidE laidE_stab
theorem roundsGt3_0 (z : List (LB × LB)) (nm : LB) (x0 : getS nm z = []) (st : Nat × Int × List LB) (X : Nat → Value) (hI : InvGt3 z nm st) : RHGt3 z nm (EGt3_0 z nm) (.exit 0) [(5, .nils)] [(4, .r 2000000 23 2 true)] st X := by
  obtain ⟨tag, i, O⟩ := st
  have hI0 := hI
  obtain ⟨i0, i1, i2, i3, i4, i5, i6, i7, it⟩ := unIGt3 z nm tag i O hI
  rcases (show tag = 0 ∨ tag = 1 from by omega) with rfl | rfl
  · skip
    by_cases h0 : i < (z.length : Int)
    · by_cases h1 : (lowS ((nthP z (Int.toNat (i))).1)) = (lowS nm)
      · exact nxGt3_p0 z nm i O X hI0 h0 h1
      · exact nxGt3_p2 z nm i O X hI0 h0 h1
    · skip
      have hdx := getS_x (nm := nm) (z := z) (i := i) (by omega) (by omega)
      refine lvGt3_0 z nm i O (h := hyGt3_p1) rfl ?_ (thXv (v := rwG prC z) rfl rfl (thNil)) runGt3_p1
      unfold hyGt3_p1
      exact hc (kRn (denX rfl)) <|
       hc (ltF rfl rfl (by omega)) <|
       hnil
  · skip
    by_cases h0 : i < (z.length : Int)
    · by_cases h1 : (lowS ((nthP z (Int.toNat (i))).1)) = (lowS nm)
      · exact nxGt3_p3 z nm i O X hI0 h0 h1
      · exact nxGt3_p5 z nm i O X hI0 h0 h1
    · exfalso; have hdx := getS_x (nm := nm) (z := z) (i := i) (by omega) (by omega); have hL := i7 (by omega); rw [i5, hdx, x0] at hL; simp at hL
theorem lfOkGt3_0 {l : LF} {h : LH} (z : List (LB × LB)) (nm : LB) (x0 : getS nm z = []) (st : Nat × Int × List LB) (hI : InvGt3 z nm st) (hl : l.hp = some h) (hs : lfSame l h 25 keepGt3 (.exit 0) 4 115 155 = true) {th0 : LA} {sg0 : List (Nat × Nat)} (hth0 : ∀ X, ThOk (cx nu one 0 laidE laidE_stab) (DGt3 z nm st X) th0) (h0 : startOk l h 25 115 116 th0 sg0 (epGt3 st) (hpGt3 st) = true) {thx : LA} (hthx : ThOk (EGt3_0 z nm) (cx nu one 0 laidE laidE_stab) thx) (hx : exitOk l h 25 115 155 thx [(5, .nils)] [(4, .r 2000000 23 2 true)] = true) : LfOk (cx nu one 0 laidE laidE_stab) bodyGt3 l :=
  lfOkX (E := EGt3_0 z nm) (InvGt3 z nm) (muGt3 z nm) (DGt3 z nm) (fun _ _ => rfl) (fun _ _ => rfl) (fun _ _ => rfl) (fun st X t ht => nuX_keep.trans (rX_keep ((by decide : ∀ t, t ∈ keepGt3 → t < 1000000) t ht))) rfl rfl rfl hl hs ebGt3 rfl rfl st hI hth0 h0 hthx hx (roundsGt3_0 z nm x0)
def nuEGt3_1 (z : List (LB × LB)) (nm : LB) : List Value := []
def roEGt3_1 (z : List (LB × LB)) (nm : LB) : List Value := [rwG prC z, rwS (getS nm z)]
noncomputable def EGt3_1 (z : List (LB × LB)) (nm : LB) : Cx := cx (nuX (nuEGt3_1 z nm) (rX (roEGt3_1 z nm) (fun _ => .bool true))) (nuX_one (nuL_one (l := nuEGt3_1 z nm) rfl)) 0 laidE laidE_stab
theorem roundsGt3_1 (z : List (LB × LB)) (nm : LB) (x0 : 1 ≤ (getS nm z).length) (st : Nat × Int × List LB) (X : Nat → Value) (hI : InvGt3 z nm st) : RHGt3 z nm (EGt3_1 z nm) (.exit 0) [(5, .sr 115)] [(4, .r 2000000 23 2 true), (115, .r 2000001 9 1 false)] st X := by
  obtain ⟨tag, i, O⟩ := st
  have hI0 := hI
  obtain ⟨i0, i1, i2, i3, i4, i5, i6, i7, it⟩ := unIGt3 z nm tag i O hI
  rcases (show tag = 0 ∨ tag = 1 from by omega) with rfl | rfl
  · skip
    by_cases h0 : i < (z.length : Int)
    · by_cases h1 : (lowS ((nthP z (Int.toNat (i))).1)) = (lowS nm)
      · exact nxGt3_p0 z nm i O X hI0 h0 h1
      · exact nxGt3_p2 z nm i O X hI0 h0 h1
    · exfalso; have hdx := getS_x (nm := nm) (z := z) (i := i) (by omega) (by omega); have hO := i6 (by omega); rw [hO, hdx] at i5; rw [← i5] at x0; simp at x0
  · skip
    by_cases h0 : i < (z.length : Int)
    · by_cases h1 : (lowS ((nthP z (Int.toNat (i))).1)) = (lowS nm)
      · exact nxGt3_p3 z nm i O X hI0 h0 h1
      · exact nxGt3_p5 z nm i O X hI0 h0 h1
    · skip
      have hdx := getS_x (nm := nm) (z := z) (i := i) (by omega) (by omega)
      refine lvGt3_1 z nm i O (h := hyGt3_p4) rfl ?_ (thXv (v := rwG prC z) rfl rfl (thXe (v := rwS O) (u := rwS (getS nm z)) rfl rfl (congrArg (rwS) (i5.trans hdx)) (thNil))) runGt3_p4
      unfold hyGt3_p4
      exact hc (kRn (denX rfl)) <|
       hc (ltF rfl rfl (by omega)) <|
       hnil
theorem lfOkGt3_1 {l : LF} {h : LH} (z : List (LB × LB)) (nm : LB) (x0 : 1 ≤ (getS nm z).length) (st : Nat × Int × List LB) (hI : InvGt3 z nm st) (hl : l.hp = some h) (hs : lfSame l h 25 keepGt3 (.exit 0) 4 115 155 = true) {th0 : LA} {sg0 : List (Nat × Nat)} (hth0 : ∀ X, ThOk (cx nu one 0 laidE laidE_stab) (DGt3 z nm st X) th0) (h0 : startOk l h 25 115 116 th0 sg0 (epGt3 st) (hpGt3 st) = true) {thx : LA} (hthx : ThOk (EGt3_1 z nm) (cx nu one 0 laidE laidE_stab) thx) (hx : exitOk l h 25 115 155 thx [(5, .sr 115)] [(4, .r 2000000 23 2 true), (115, .r 2000001 9 1 false)] = true) : LfOk (cx nu one 0 laidE laidE_stab) bodyGt3 l :=
  lfOkX (E := EGt3_1 z nm) (InvGt3 z nm) (muGt3 z nm) (DGt3 z nm) (fun _ _ => rfl) (fun _ _ => rfl) (fun _ _ => rfl) (fun st X t ht => nuX_keep.trans (rX_keep ((by decide : ∀ t, t ∈ keepGt3 → t < 1000000) t ht))) rfl rfl rfl hl hs ebGt3 rfl rfl st hI hth0 h0 hthx hx (roundsGt3_1 z nm x0)
noncomputable def fi3 : FI := (tabk.fn.get 3).getD default
theorem fi3_at : tabk.fn.get 3 = some fi3 := by kernel_rfl
theorem fi3_body : fi3.body = some (Tryd.f3.body.getD .skip) := by kernel_rfl
theorem fiB3 : fi3.body.isSome = true := by rw [fi3_body]; rfl
noncomputable def fi10 : FI := (tabk.fn.get 10).getD default
theorem fi10_at : tabk.fn.get 10 = some fi10 := by kernel_rfl
theorem fi10_body : fi10.body = some (Tryd.f10.body.getD .skip) := by kernel_rfl
theorem fiB10 : fi10.body.isSome = true := by rw [fi10_body]; rfl
noncomputable def fi9 : FI := (tabk.fn.get 9).getD default
theorem fi9_at : tabk.fn.get 9 = some fi9 := by kernel_rfl
theorem fi9_body : fi9.body = some (Tryd.f9.body.getD .skip) := by kernel_rfl
theorem fiB9 : fi9.body.isSome = true := by rw [fi9_body]; rfl
end Go.Proofs.YtjkdkpdjmapieaaDoor.fieldBack
