/- A part of the proof: an interpreter of the model's own code on partly known states, and that what it answers is what the program answers. No condition of its own. -/
import Derived.Test.YtipdlfkjablekaaDoorR1PathBackO8
set_option maxRecDepth 100000
set_option linter.unusedVariables false
set_option linter.unusedSimpArgs false
set_option maxHeartbeats 4000000
namespace Go.Proofs.YtipdlfkjablekaaDoor.pathBack
open Go Go.AX Go.Proofs Go.Proofs.YtipdlfkjablekaaDoor
variable {nu : Nat → Value} {one : ∀ i, i < 1000000 → (nu i).oneCell' = true} {E' : Cx} {x' : Ex} {e' : LA} {h' : LE}
noncomputable def bodyBk : Code := loopNo (Tryd.f3.body.getD .skip) 0
theorem keyBk : oneKey (loopsOf (Tryd.f3.body.getD .skip)) 12 0 0 = true := by kernel_rfl
def keepBk : List Nat := [3, 5]
def epBk_0 : LA := [(6, .ni), (7, .sr 63), (8, .x 0), (9, .x 1)]
def hpBk_0 : LE := [(63, .r 2000000 9 1 false)]
def nuBk_0 (q : List LB) (i : Int) (s : LB) : List Value := [St' s, .int .i64 (i), St' ([] : LB), .int .i64 ((q.length : Int)), St' (List.getD q (Int.toNat (i)) []), St' (s ++ [u8 47]), St' (s ++ ([u8 47] ++ (List.getD q (Int.toNat (i)) []))), .int .i64 (i + 1), St' ([] : LB), .int .i64 ((q.length : Int))]
def roBk_0 (q : List LB) (i : Int) (s : LB) : List Value := [rwS q]
def epBk (st : Nat × Int × LB) : LA := epBk_0
def hpBk (st : Nat × Int × LB) : LE := hpBk_0
def nuBk (q : List LB) (st : Nat × Int × LB) : List Value := nuBk_0 q (st.2.1) (st.2.2)
def roBk (q : List LB) (st : Nat × Int × LB) : List Value := roBk_0 q (st.2.1) (st.2.2)
theorem onBk (q : List LB) (st : Nat × Int × LB) : ∀ j, (nuL (nuBk q st) j).oneCell' = true := by
  intro j
  unfold nuBk
  exact nuL_one (l := nuBk_0 q (st.2.1) (st.2.2)) rfl j
theorem ebBk (st : Nat × Int × LB) : (lfB (epBk st) && lfC keepBk) = true := by
  unfold epBk
  rfl
noncomputable def DBk (q : List LB) (st : Nat × Int × LB) (X : Nat → Value) : Cx := cx (nuX (nuBk q st) (rX (roBk q st) X)) (nuX_one (onBk q st)) 0 laidE laidE_stab
def InvBk (q : List LB) (st : Nat × Int × LB) : Prop := (0 ≤ (st.2.1)) ∧ ((st.2.1) ≤ (q.length : Int)) ∧ ((st.2.2) = fl47 (q.take (Int.toNat (st.2.1)))) ∧ ((st.1) < 1)
abbrev CjBk (q : List LB) (tag : Nat) (i : Int) (s : LB) : Prop := (0 ≤ i) ∧ (i ≤ (q.length : Int)) ∧ (s = fl47 (q.take (Int.toNat i))) ∧ (tag < 1)
theorem mkIBk (q : List LB) (tag : Nat) (i : Int) (s : LB) (h : CjBk q tag i s) : InvBk q (tag, i, s) := h
theorem unIBk (q : List LB) (tag : Nat) (i : Int) (s : LB) (h : InvBk q (tag, i, s)) : (0 ≤ i) ∧ (i ≤ (q.length : Int)) ∧ (s = fl47 (q.take (Int.toNat i))) ∧ (tag < 1) := h
def muBk (q : List LB) (st : Nat × Int × LB) : Nat := (q.length - (st.2.1).toNat)
abbrev RHBk (q : List LB) (E' : Cx) (ex' : Ex) (epx' : LA) (hpx' : LE) (st : Nat × Int × LB) (X : Nat → Value) : Prop := RoundH E' bodyBk keepBk 79 ex' 3 103 103 113 epBk hpBk epx' hpx' (InvBk q) (muBk q) (DBk q) st X
noncomputable abbrev RNBk_0 (h : LK) (x : Ex) (th : LA) (sg : List (Nat × Nat)) (m : Nat) (ep : LA) (hp : LE) : Bool := okRdH (code (tbl h) 3000 [] bodyBk (envOf (headOf epBk_0 keepBk) 79) ⟨lhSet hpBk_0 .leaf, 103, 0, 0⟩) x keepBk 79 113 th sg 103 m ep hp
theorem stBk_0 (q : List LB) (i : Int) (s : LB) {X : Nat → Value} {h : LK} (y : Nat × Int × LB) {th : LA} {sg : List (Nat × Nat)} (ho : ∀ a' r', (a', r') ∈ h → HOk (cx (nuX (nuBk_0 q i s) (rX (roBk_0 q i s) X)) (nuX_one (nuL_one (l := nuBk_0 q i s) rfl)) 0 laidE laidE_stab) a' r') (hy : InvBk q y) (lt : muBk q y < muBk q (0, i, s)) (ht : ThOk (cx (nuX (nuBk_0 q i s) (rX (roBk_0 q i s) X)) (nuX_one (nuL_one (l := nuBk_0 q i s) rfl)) 0 laidE laidE_stab) (DBk q y X) th) (run : RNBk_0 h .normal th sg 103 (epBk y) (hpBk y) = true) : RHBk q E' x' e' h' (0, i, s) X :=
  RoundH.next (tb := tbl h) (L := []) (f := 3000) y ((tabkOk _ _).hyps ho) (LpOk.nil _) rfl hy lt ht run
theorem lvBk_0 (q : List LB) (i : Int) (s : LB) {X : Nat → Value} {h : LK} {th : LA} {sg : List (Nat × Nat)} (hne : exB x' .normal = false) (ho : ∀ a' r', (a', r') ∈ h → HOk (cx (nuX (nuBk_0 q i s) (rX (roBk_0 q i s) X)) (nuX_one (nuL_one (l := nuBk_0 q i s) rfl)) 0 laidE laidE_stab) a' r') (ht : ThOk (cx (nuX (nuBk_0 q i s) (rX (roBk_0 q i s) X)) (nuX_one (nuL_one (l := nuBk_0 q i s) rfl)) 0 laidE laidE_stab) E' th) (run : RNBk_0 h x' th sg 113 e' h' = true) : RHBk q E' x' e' h' (0, i, s) X :=
  RoundH.leave (tb := tbl h) (L := []) (f := 3000) ((tabkOk _ _).hyps ho) (LpOk.nil _) rfl hne ht run
def hyBk_p0 : LK := [(.bytes [], .x 2), (.rl (.x 2000000) 1, .x 3), (.bin .lss (.x 1) (.x 3), .b true), (.el (.x 2000000) (.x 1) 1 0, .x 4), (.bin .eql (.x 4) (.s 1 46), .b false), (.bin .eql (.x 4) (.s 2 11822), .b false), (.bin .add (.x 0) (.s 1 47), .x 5), (.bin .add (.x 5) (.x 4), .x 6), (.bin .add (.x 1) (.i .i64 (.ofNat 1)), .x 7)]
theorem runBk_p0 : RNBk_0 hyBk_p0 .normal [(0, .x 6), (1, .x 7), (2000000, .x 2000000)] [] 103 epBk_0 hpBk_0 = true := by kernel_rfl
theorem nxBk_p0 (q : List LB) (c0 : ∀ x ∈ q, good x) (c1 : (fl47 q).length ≤ 1000) (c2 : q.length ≤ 1000) (i : Int) (s : LB) (X : Nat → Value) (hI : InvBk q (0, i, s)) (h0 : i < (q.length : Int)) : RHBk q E' x' e' h' (0, i, s) X := by
  obtain ⟨i0, i1, i2, it⟩ := unIBk q 0 i s hI
  have hgd := gd_at c0 i0 (by omega)
  obtain ⟨hg1, hg2, hg3⟩ := hgd
  have hs2 := congrArg List.length i2
  refine stBk_0 q i s (h := hyBk_p0) (0, (i + 1), (s ++ ([u8 47] ++ (List.getD q (Int.toNat (i)) [])))) ?_ (mkIBk q 0 (i + 1) (s ++ ([u8 47] ++ (List.getD q (Int.toNat (i)) []))) ⟨by omega, by omega, fl_step (by omega) (by omega) i2, by omega⟩) (by show q.length - (i + 1).toNat < q.length - i.toNat; omega) (thXv (v := St' (s ++ ([u8 47] ++ (List.getD q (Int.toNat (i)) [])))) rfl rfl (thXi (b := ((i + 1))) rfl rfl (by omega) (thXv (v := rwS q) rfl rfl (thNil)))) runBk_p0
  unfold hyBk_p0
  exact hc (kBytesB (bs := ([] : LB)) .nil (denX rfl)) <|
   hc (kRl (isX rfl) (denX rfl) (by first | omega | (simp <;> omega))) <|
   hc (ltT rfl rfl (by omega)) <|
   hc (kEl (j := (Int.toNat (i))) (isX rfl) (isX rfl) (denX rfl) (by omega) (by first | omega | (simp <;> omega))) <|
   hc (kEqS (isX rfl) (isSx (l := [u8 46]) 1 46 rfl) (decide_eq_false (by first | assumption | exact hg1 | exact hg2))) <|
   hc (kEqS (isX rfl) (isSx (l := [u8 46, u8 46]) 2 11822 rfl) (decide_eq_false (by first | assumption | exact hg1 | exact hg2))) <|
   hc (kCat (isX rfl) (isSx (l := [u8 47]) 1 47 rfl) (denX rfl) (by first | rfl | (simp; done)) (by first | omega | (simp only [List.length_append, List.length_cons, List.length_nil]; omega))) <|
   hc (kCat (isX rfl) (isX rfl) (denX rfl) (by first | rfl | (simp; done)) (by first | omega | (simp only [List.length_append, List.length_cons, List.length_nil]; omega))) <|
   hc (adC rfl rfl (by omega)) <|
   hnil
def hyBk_p1 : LK := [(.bytes [], .x 8), (.rl (.x 2000000) 1, .x 9), (.bin .lss (.x 1) (.x 9), .b false)]
theorem runBk_p1 : RNBk_0 hyBk_p1 (.exit 0) [(0, .x 0)] [] 113 [(6, .ni), (8, .x 0)] [] = true := by kernel_rfl
def nuEBk_0 (q : List LB) : List Value := [St' (fl47 q)]
def roEBk_0 (q : List LB) : List Value := []
noncomputable def EBk_0 (q : List LB) : Cx := cx (nuX (nuEBk_0 q) (rX (roEBk_0 q) (fun _ => .bool true))) (nuX_one (nuL_one (l := nuEBk_0 q) rfl)) 0 laidE laidE_stab
theorem roundsBk_0 (q : List LB) (c0 : ∀ x ∈ q, good x) (c1 : (fl47 q).length ≤ 1000) (c2 : q.length ≤ 1000) (st : Nat × Int × LB) (X : Nat → Value) (hI : InvBk q st) : RHBk q (EBk_0 q) (.exit 0) [(6, .ni), (8, .x 0)] [] st X := by
  obtain ⟨tag, i, s⟩ := st
  have hI0 := hI
  obtain ⟨i0, i1, i2, it⟩ := unIBk q tag i s hI
  obtain rfl : tag = 0 := by omega
  skip
  by_cases h0 : i < (q.length : Int)
  · exact nxBk_p0 q c0 c1 c2 i s X hI0 h0
  · skip
    refine lvBk_0 q i s (h := hyBk_p1) rfl ?_ (thXe (v := St' s) (u := St' (fl47 q)) rfl rfl (congrArg (fun l => St' l) (fl_end (by omega) i2)) (thNil)) runBk_p1
    unfold hyBk_p1
    exact hc (kBytesB (bs := ([] : LB)) .nil (denX rfl)) <|
     hc (kRl (isX rfl) (denX rfl) (by first | omega | (simp <;> omega))) <|
     hc (ltF rfl rfl (by omega)) <|
     hnil
theorem lfOkBk_0 {l : LF} {h : LH} (q : List LB) (c0 : ∀ x ∈ q, good x) (c1 : (fl47 q).length ≤ 1000) (c2 : q.length ≤ 1000) (st : Nat × Int × LB) (hI : InvBk q st) (hl : l.hp = some h) (hs : lfSame l h 79 keepBk (.exit 0) 3 103 113 = true) {th0 : LA} {sg0 : List (Nat × Nat)} (hth0 : ∀ X, ThOk (cx nu one 0 laidE laidE_stab) (DBk q st X) th0) (h0 : startOk l h 79 103 103 th0 sg0 (epBk st) (hpBk st) = true) {thx : LA} (hthx : ThOk (EBk_0 q) (cx nu one 0 laidE laidE_stab) thx) (hx : exitOk l h 79 103 113 thx [(6, .ni), (8, .x 0)] [] = true) : LfOk (cx nu one 0 laidE laidE_stab) bodyBk l :=
  lfOkX (E := EBk_0 q) (InvBk q) (muBk q) (DBk q) (fun _ _ => rfl) (fun _ _ => rfl) (fun _ _ => rfl) (fun st X t ht => nuX_keep.trans (rX_keep ((by decide : ∀ t, t ∈ keepBk → t < 1000000) t ht))) rfl rfl rfl hl hs ebBk rfl rfl st hI hth0 h0 hthx hx (roundsBk_0 q c0 c1 c2)
noncomputable def fi3 : FI := (tabk.fn.get 3).getD default
theorem fi3_at : tabk.fn.get 3 = some fi3 := by kernel_rfl
theorem fi3_body : fi3.body = some (Tryd.f3.body.getD .skip) := by kernel_rfl
theorem fiB3 : fi3.body.isSome = true := by rw [fi3_body]; rfl
theorem cfA3 : (loopsOf (Tryd.f3.body.getD .skip)).all (fun b => !(keyEq (Go.AX.keyOf b) 8888888)) = true := by kernel_rfl
end Go.Proofs.YtipdlfkjablekaaDoor.pathBack
