/- A part of the proof: what an interpreter answers on partly known states is what the program answers. No condition. -/
import Derived.Test.YtngkglegomkjkaaDoorV1ReplyTellsO8
set_option maxRecDepth 100000
set_option linter.unusedVariables false
set_option linter.unusedSimpArgs false
set_option maxHeartbeats 4000000
namespace Go.Proofs.YtngkglegomkjkaaDoor.replyTells
open Go Go.AX Go.Proofs Go.Proofs.YtngkglegomkjkaaDoor
variable {nu : Nat → Value} {one : ∀ i, i < 1000000 → (nu i).oneCell' = true} {E' : Cx} {x' : Ex} {e' : LA} {h' : LE}
noncomputable def FH : Code := fa (Tryd.f27.body.getD .skip) 0
theorem keyRn403 : fH (ct (Tryd.f27.body.getD .skip)) 3 0 0 = true := by kernel_rfl
def oN : List Nat := []
def Ez : LA := [(0, .sr 403), (3, .x 1), (4, .x 0)]
def ER : LE := [(403, .r 2000000 37 2 false)]
def uv (z : List (LB × LB)) (i : Int) (T : LB) : List Value := [.int .i64 (i), St' T, St' ([] : LB), .int .i64 ((z.length : Int)), St' ((aU z i.toNat).1), St' (T ++ (aU z i.toNat).1), St' (T ++ ((aU z i.toNat).1 ++ [u8 58, u8 32])), St' ((aU z i.toNat).2), St' (T ++ ((aU z i.toNat).1 ++ ([u8 58, u8 32] ++ (aU z i.toNat).2))), St' (T ++ ((aU z i.toNat).1 ++ ([u8 58, u8 32] ++ ((aU z i.toNat).2 ++ [u8 13, u8 10])))), .int .i64 (i + 1), St' ([] : LB), .int .i64 ((z.length : Int))]
def aF0 (z : List (LB × LB)) (i : Int) (T : LB) : List Value := [aN aM z, bJ ([] : List LB), bJ ([] : List LB)]
def rG (st : Nat × Int × LB) : LA := Ez
def ES (st : Nat × Int × LB) : LE := ER
def CR (z : List (LB × LB)) (st : Nat × Int × LB) : List Value := uv z (st.2.1) (st.2.2)
def roRn403 (z : List (LB × LB)) (st : Nat × Int × LB) : List Value := aF0 z (st.2.1) (st.2.2)
theorem onRn403 (z : List (LB × LB)) (st : Nat × Int × LB) : ∀ j, (aY (CR z st) j).oneCell' = true := by
 intro j
 unfold CR
 exact aT (l := uv z (st.2.1) (st.2.2)) rfl j
theorem ebRn403 (st : Nat × Int × LB) : (dG (rG st) && eG oN) = true := by
 unfold rG
 rfl
noncomputable def Fe (z : List (LB × LB)) (st : Nat × Int × LB) (X : Nat → Value) : Cx := cx (ay (CR z st) (rX (roRn403 z st) X)) (az (onRn403 z st)) 3 aG aJ
abbrev Fj (z : List (LB × LB)) (tag : Nat) (i : Int) (T : LB) : Prop := (0 ≤ i) ∧ (i ≤ (z.length : Int)) ∧ (z.length ≤ 40) ∧ (∀ q, q ∈ z → cf q) ∧ (okB z) ∧ (T = aq (z.take i.toNat)) ∧ ((T.length : Int) ≤ 2097156 * i) ∧ (tag < 1)
def nB (z : List (LB × LB)) (st : Nat × Int × LB) : Prop := Fj z st.1 (st.2.1) (st.2.2)
theorem aM7 {z : List (LB × LB)} {tag : Nat} {i : Int} {T : LB} (h : Fj z tag i T) : nB z (tag, i, T) := h
theorem aI5 (z : List (LB × LB)) (tag : Nat) (i : Int) (T : LB) (h : nB z (tag, i, T)) : Fj z tag i T := h
def wo (z : List (LB × LB)) (st : Nat × Int × LB) : Nat := (z.length - (st.2.1).toNat)
abbrev BA (z : List (LB × LB)) (E' : Cx) (ex' : Ex) (epx' : LA) (hpx' : LE) (st : Nat × Int × LB) (X : Nat → Value) : Prop := bm E' FH oN 27 ex' 3 503 503 543 rG ES epx' hpx' (nB z) (wo z) (Fe z) st X
noncomputable abbrev BJ (z : List (LB × LB)) (i : Int) (T : LB) (X : Nat → Value) : Cx := cx (ay (uv z i T) (rX (aF0 z i T) X)) (az (aT (l := uv z i T) rfl)) 3 aG aJ
noncomputable abbrev A6 (h : LK) (x : Ex) (th : LA) (sg : List (Nat × Nat)) (m : Nat) (ep : LA) (hp : LE) : Bool := cr (code (aR h) 3000 [] FH (cN (cV Ez oN) 27) ⟨bA ER .leaf, 503, 0, 0⟩) x oN 27 543 th sg 503 m ep hp
theorem stRn403_0 {z : List (LB × LB)} {i : Int} {T : LB} {X : Nat → Value} {h : LK} (y : Nat × Int × LB) {th : LA} {sg : List (Nat × Nat)} (ho : ∀ a' r', (a', r') ∈ h → aS (BJ z i T X) a' r') (hy : nB z y) (lt : wo z y < wo z (0, i, T)) (ht : bN (BJ z i T X) (Fe z y X) th) (run : A6 h .normal th sg 503 (rG y) (ES y) = true) : BA z E' x' e' h' (0, i, T) X :=
 bm.next (tb := aR h) (L := []) (f := 3000) y ((ab _ _).hyps ho) (bU.nil _) rfl hy lt ht run
theorem lvRn403_0 {z : List (LB × LB)} {i : Int} {T : LB} {X : Nat → Value} {h : LK} {th : LA} {sg : List (Nat × Nat)} (hne : eK x' .normal = false) (ho : ∀ a' r', (a', r') ∈ h → aS (BJ z i T X) a' r') (ht : bN (BJ z i T X) E' th) (run : A6 h x' th sg 543 e' h' = true) : BA z E' x' e' h' (0, i, T) X :=
 bm.leave (tb := aR h) (L := []) (f := 3000) ((ab _ _).hyps ho) (bU.nil _) rfl hne ht run
def DH : LK := [(.rl (.x 2000000) 2, .x 3), (.bin .lss (.x 0) (.x 3), .b true), (.el (.x 2000000) (.x 0) 2 0, .x 4), (.bin .add (.x 1) (.x 4), .x 5), (.bin .add (.x 5) (.s 2 8250), .x 6), (.el (.x 2000000) (.x 0) 2 1, .x 7), (.bin .add (.x 6) (.x 7), .x 8), (.bin .add (.x 8) (.s 2 2573), .x 9), (.bin .add (.x 0) (I6 1), .x 10)]
theorem runRn403_p0 : A6 DH .normal [(0, .x 10), (1, .x 9), (2000000, .x 2000000)] [] 503 Ez ER = true := by kernel_rfl
def DG : LK := [(.rl (.x 2000000) 2, .x 12), (.bin .lss (.x 0) (.x 12), .b false)]
theorem runRn403_p1 : A6 DG (.exit 0) [(0, .x 1), (2000000, .x 2000000)] [] 543 [(3, .x 0)] [(403, .r 2000000 37 2 false)] = true := by kernel_rfl
section
variable {z : List (LB × LB)} {i : Int} {T : LB} {X : Nat → Value}
theorem nxRn403_p0 (hI : nB z (0, i, T)) (h0 : i < (z.length : Int)) : BA z E' x' e' h' (0, i, T) X := by
 obtain ⟨i0, i1, i2, i3, i4, i5, i6, it⟩ := aI5 z 0 i T hI
 have h6 := eX i4 i0 (by omega)
 have := eW (l := z) (by assumption) i.toNat
 have hsn := qV (z := z) (T := T) i0 (by omega) i5
 have hpl := oF (aU z i.toNat); have hb2 : ([u8 58, u8 32] : LB).length = 2 := rfl; have hb3 : ([u8 13, u8 10] : LB).length = 2 := rfl
 have hsa : (T ++ eY (aU z i.toNat)).length = T.length + (eY (aU z i.toNat)).length := List.length_append
 refine stRn403_0 (h := DH) (0, (i + 1), (T ++ ((aU z i.toNat).1 ++ ([u8 58, u8 32] ++ ((aU z i.toNat).2 ++ [u8 13, u8 10]))))) ?_ (aM7 ⟨by omega, by omega, i2, i3, i4, hsn, by first | omega | (simp only [List.length_append, List.length_nil] at *; omega), by omega⟩) (by show z.length - (i + 1).toNat < z.length - i.toNat; omega) (c8 (b := ((i + 1))) rfl rfl (by omega) (aW (v := St' (T ++ ((aU z i.toNat).1 ++ ([u8 58, u8 32] ++ ((aU z i.toNat).2 ++ [u8 13, u8 10]))))) (aW (v := aN aM z) (ao)))) runRn403_p0
 unfold DH
 exact hc (cK bH (aA rfl) (aF rfl) (by first | omega | (simp <;> omega))) <|hc dO <|hc (cY (j := i.toNat) (d := ([], [])) bH (by decide) (aA rfl) (aA rfl) (aF rfl) (by omega) (by omega) rfl) <|hc (aI (aA rfl) (aA rfl) (aF rfl) (by first | rfl | (simp; done)) (by omega)) <|hc (aI (aA rfl) (aO (l := [u8 58, u8 32]) 2 8250 rfl) (aF rfl) (by first | rfl | (simp; done)) (by first | omega | (simp <;> omega))) <|hc (cY (j := i.toNat) (d := ([], [])) bH (by decide) (aA rfl) (aA rfl) (aF rfl) (by omega) (by omega) rfl) <|hc (aI (aA rfl) (aA rfl) (aF rfl) (by first | rfl | (simp; done)) (by first | omega | (simp <;> omega))) <|hc (aI (aA rfl) (aO (l := [u8 13, u8 10]) 2 2573 rfl) (aF rfl) (by first | rfl | (simp; done)) (by first | omega | (simp <;> omega))) <|hc cQ <|hnil
end
def aC9 (z : List (LB × LB)) : List Value := [St' (aq z)]
def roERn403_0 (z : List (LB × LB)) : List Value := [aN aM z]
noncomputable def aP7 (z : List (LB × LB)) : Cx := cx (ay (aC9 z) (rX (roERn403_0 z) (fun _ => .bool true))) (az (aT (l := aC9 z) rfl)) 3 aG aJ
theorem roundsRn403_0 (z : List (LB × LB)) (st : Nat × Int × LB) (X : Nat → Value) (hI : nB z st) : BA z (aP7 z) (.exit 0) [(3, .x 0)] [(403, .r 2000000 37 2 false)] st X := by
 obtain ⟨tag, i, T⟩ := st
 have hI0 := hI
 obtain ⟨i0, i1, i2, i3, i4, i5, i6, it⟩ := aI5 z tag i T hI
 obtain rfl : tag = 0 := by omega
 skip
 by_cases h0 : i < (z.length : Int)
 ·exact nxRn403_p0 hI0 h0
 ·refine lvRn403_0 (h := DG) rfl ?_ (bn (v := St' T) (u := St' (aq z)) rfl rfl (congrArg (fun l => St' l) (Cr (by omega) i5)) (aW (v := aN aM z) (ao))) runRn403_p1
  unfold DG
  exact hc (cK bH (aA rfl) (aF rfl) (by first | omega | (simp <;> omega))) <|hc iJ <|hnil
theorem lfOkRn403_0 (z : List (LB × LB)) : cI (cx nu one 3 aG aJ) (aP7 z) FH oN 27 (.exit 0) 3 503 503 543 rG ES [(3, .x 0)] [(403, .r 2000000 37 2 false)] (nB z) (Fe z) :=
 fb (wo z) (fun _ _ => rfl) (fun _ _ => rfl) (fun _ _ => rfl) (fun st X t ht => fX.trans (fV ((by decide : ∀ t, t ∈ oN → t < 1000000) t ht))) rfl rfl rfl ebRn403 rfl rfl (roundsRn403_0 z)
noncomputable def lQ : FI := (bc.fn.get 27).getD default
theorem rB : bc.fn.get 27 = some lQ := by kernel_rfl
theorem o8 : lQ.body = some (Tryd.f27.body.getD .skip) := by kernel_rfl
theorem fiB27 : lQ.body.isSome = true := by rw [o8]; rfl
theorem Al : (ct (Tryd.f27.body.getD .skip)).all (fun b => !(iM (Go.AX.keyOf b) 8888888)) = true := by kernel_rfl
def aZ8 : List AV := [.sr 403]
def EU : LE := [(403, .r 2000000 37 2 false)]
def aW4 (z : List (LB × LB)) : List Value := [St' ([] : LB), St' (aq z)]
def roLr403 (z : List (LB × LB)) : List Value := [aN aM z, bJ ([] : List LB), aN aM z]
noncomputable def Fg (z : List (LB × LB)) : Cx := cx (ay (aW4 z) (rX (roLr403 z) (fun _ => .bool true))) (az (aT (l := aW4 z) rfl)) 3 aG aJ
def DV : LK := []
def lh35 : LH := ⟨3, 503, 543, [(403, .r 2000000 37 2 false)], [(403, .r 2000002 37 2 false)]⟩
def lf35 : LF := ⟨3, 27, [(0, .sr 403), (3, .s 0 0), (4, I6 0)], [], (.exit 0), [(3, .x 1)], some lh35⟩
noncomputable def aB6 : Tab := bf ((aR DV)) 27 lQ [lf35]
theorem runLr403_c0 (e : Unit) : dA (call aB6 2000 27 aZ8 ⟨bA EU ((fun _ : Unit => T.leaf) e), 503, 0, 0⟩) (.x 0) [(0, .x 1), (2000000, .x 2000002)] [] 503 563 [(403, .r 2000000 37 2 false)] = true := by kernel_rfl
def aD0 (z : List (LB × LB)) : List Value := [St' (aq z)]
def roELr403_0 (z : List (LB × LB)) : List Value := [aN aM z]
noncomputable def aP8 (z : List (LB × LB)) : Cx := cx (ay (aD0 z) (rX (roELr403_0 z) (fun _ => .bool true))) (az (aT (l := aD0 z) rfl)) 3 aG aJ
theorem Ag {l : LF} {h : LH} {qA : Nat × AV} (z : List (LB × LB)) (p0 : z.length ≤ 40) (p1 : ∀ q, q ∈ z → cf q) (p2 : okB z) (hl : l.hp = some h) (hq : l.post = [qA]) (hsA : ju l h 3 503 563 = true) {bD : LA} {a8 : List (Nat × Nat)} (cB : bN (cx nu one 3 aG aJ) (Fg z) bD) (h0 : (iP bD (cd 503 503 a8) aZ8 (l.pre.map (·.2)) && ck 503 503 bD a8 (bA h.pre .leaf) EU && cj (numsOf 503 a8 EU)) = true) {bB : LA} (cA : bN (aP8 z) (cx nu one 3 aG aJ) bB) (hx : (inA bB (cd 503 563 []) 8 qA.2 (.x 0) && ck 503 563 bB [] (bA [(403, .r 2000000 37 2 false)] .leaf) h.post && cj (numsOf 503 [] h.post)) = true) : iY (cx nu one 3 aG aJ) 27 l := by
 have hlnl := dU z (by assumption)
 skip
 have ho : ∀ a' r', (a', r') ∈ DV → aS (Fg z) a' r' := by
  unfold DV
  exact hnil
 exact dQ (D := Fg z) (E := aP8 z) (Gf := (fun _ : Unit => T.leaf)) (f := 2000) (tb := aB6) rfl rfl rfl rfl rfl rfl hl hq hsA rfl cB h0 cA hx (bM.dn ((ab _ _).hyps ho) (by omega) rB o8 (bq (dm rfl ⟨0, keyRn403, cI.use (l := lf35) (h := lh35) (lfOkRn403_0 z) (0, (0 : Int), ([] : LB)) (aM7 ⟨by omega, by omega, by omega, by assumption, by assumption, rfl, by simp, by omega⟩) rfl (by kernel_rfl) (bD := [(0, I6 0), (1, .s 0 0), (2000000, .x 2000000)]) (a8 := []) (fun X => eF ed (eF (show Is _ (.s 0 0) (St' ([] : LB)) from lA (v := St' ([] : LB)) (aO (l := ([] : LB)) 0 0 rfl) (by first | rfl | (simp; done))) (aW (v := aN aM z) (ao)))) (by kernel_rfl) (bB := [(1, .x 0), (2000002, .x 2000000)]) (aW (v := St' (aq z)) (aW (v := aN aM z) (ao))) (by kernel_rfl)⟩) bj)) rfl (fh (by omega)) fiB27 (.inl ⟨fun _ => rfl, ⟨()⟩⟩) (aW (v := St' (aq z)) (aW (v := aN aM z) (ao))) runLr403_c0
end Go.Proofs.YtngkglegomkjkaaDoor.replyTells

