/- A part of the proof: what an interpreter answers on partly known states is what the program answers. No condition. -/
import Derived.Test.YtngkglegomkjkaaDoorV1ReplyTellsO6
set_option maxRecDepth 100000
set_option linter.unusedVariables false
set_option linter.unusedSimpArgs false
set_option maxHeartbeats 4000000
namespace Go.Proofs.YtngkglegomkjkaaDoor.replyTells
open Go Go.AX Go.Proofs Go.Proofs.YtngkglegomkjkaaDoor
variable {nu : Nat → Value} {one : ∀ i, i < 1000000 → (nu i).oneCell' = true} {E' : Cx} {x' : Ex} {e' : LA} {h' : LE}
def eY (p : LB × LB) : LB := p.1 ++ ([u8 58, u8 32] ++ (p.2 ++ [u8 13, u8 10]))
def aq (l : List (LB × LB)) : LB := l.flatMap eY
theorem qV {z : List (LB × LB)} {i : Int} {T : LB} (h0 : 0 ≤ i) (h1 : i < (z.length : Int)) (h : T = aq (z.take i.toNat)) : T ++ eY (aU z i.toNat) = aq (z.take (Int.toNat (i + 1))) := by
 rw [h, nj h0 h1, aq, aq, List.flatMap_append, List.flatMap_cons, List.flatMap_nil, List.append_nil]
theorem Cr {z : List (LB × LB)} {i : Int} {T : LB} (h1 : ¬ i < (z.length : Int)) (h : T = aq (z.take i.toNat)) : T = aq z := by
 rw [List.take_of_length_le (by omega)] at h; exact h
theorem oF (p : LB × LB) : (eY p).length = p.1.length + p.2.length + 4 := by
 unfold eY; simp only [List.length_append, List.length_cons, List.length_nil]; omega
theorem dU : ∀ z : List (LB × LB), okB z → 4 * z.length ≤ (aq z).length ∧ (aq z).length ≤ 2097156 * z.length
 | [], _ => by simp [aq]
 | q :: z, h => by
  have h2 := dU z (fun q hq => h q (List.mem_cons_of_mem _ hq))
  have h1 := h q (List.mem_cons_self ..)
  have e : aq (q :: z) = eY q ++ aq z := List.flatMap_cons
  have := oF q
  rw [e, List.length_append, List.length_cons]; omega
theorem lnS_0 {z : List (LB × LB)} (h : z.length = 0) : aq z = [] := by rw [List.eq_nil_of_length_eq_zero h]; rfl
noncomputable def Ao : Code := fa (Tryd.f23.body.getD .skip) 0
theorem keyLn23 : fH (ct (Tryd.f23.body.getD .skip)) 3 0 0 = true := by kernel_rfl
def ko : List Nat := []
def aO7 : LA := [(3, .p 85 0), (6, .sr 23), (7, .x 0), (8, .x 1)]
def aO1 : LE := [(23, .r 2000000 37 2 false), (85, bk 53 [.bg, .bO])]
def vX (z : List (LB × LB)) (i : Int) (T : LB) : List Value := [.int .i64 ((z.length : Int)), .int .i64 (i), St' ([] : LB), St' ((aU z i.toNat).1), St' ((aU z i.toNat).2), St' ((aU z i.toNat).1 ++ [u8 58, u8 32]), St' ((aU z i.toNat).1 ++ ([u8 58, u8 32] ++ (aU z i.toNat).2)), St' ((aU z i.toNat).1 ++ ([u8 58, u8 32] ++ ((aU z i.toNat).2 ++ [u8 13, u8 10]))), .int .u8 (bt ((aU z i.toNat).1 ++ ([u8 58, u8 32] ++ ((aU z i.toNat).2 ++ [u8 13, u8 10]))) 0), .int .i64 (((aU z i.toNat).1.length : Int) + ((aU z i.toNat).2.length : Int) + 4), .int .i64 (i + 1)]
def aL1 (z : List (LB × LB)) (i : Int) (T : LB) : List Value := [aN aM z, bJ ([] : List LB)]
def AQ : LA := [(3, .p 85 0), (6, .sr 23), (7, .x 0), (8, .x 1)]
def zb : LE := [(23, .r 2000000 37 2 false), (85, bk 53 [.p 85 0, .sy 86]), (86, .t 2 5)]
def vW (z : List (LB × LB)) (i : Int) (T : LB) : List Value := [.int .i64 ((z.length : Int)), .int .i64 (i), St' T, St' ([] : LB), St' ((aU z i.toNat).1), St' ((aU z i.toNat).2), St' ((aU z i.toNat).1 ++ [u8 58, u8 32]), St' ((aU z i.toNat).1 ++ ([u8 58, u8 32] ++ (aU z i.toNat).2)), St' ((aU z i.toNat).1 ++ ([u8 58, u8 32] ++ ((aU z i.toNat).2 ++ [u8 13, u8 10]))), St' (T ++ ((aU z i.toNat).1 ++ ([u8 58, u8 32] ++ ((aU z i.toNat).2 ++ [u8 13, u8 10])))), .int .i64 (((aU z i.toNat).1.length : Int) + ((aU z i.toNat).2.length : Int) + 4), .int .i64 (i + 1), St' ([] : LB)]
def aL0 (z : List (LB × LB)) (i : Int) (T : LB) : List Value := [aN aM z, bJ ([] : List LB), bJ ([] : List LB)]
def pA (st : Nat × Int × LB) : LA := if st.1 = 0 then aO7 else AQ
def zd (st : Nat × Int × LB) : LE := if st.1 = 0 then aO1 else zb
def CV (z : List (LB × LB)) (st : Nat × Int × LB) : List Value := if st.1 = 0 then vX z (st.2.1) (st.2.2) else vW z (st.2.1) (st.2.2)
def roLn23 (z : List (LB × LB)) (st : Nat × Int × LB) : List Value := if st.1 = 0 then aL1 z (st.2.1) (st.2.2) else aL0 z (st.2.1) (st.2.2)
theorem onLn23 (z : List (LB × LB)) (st : Nat × Int × LB) : ∀ j, (aY (CV z st) j).oneCell' = true := by
 intro j
 unfold CV
 by_cases g0 : st.1 = 0
 ·rw [if_pos g0]; exact aT (l := vX z (st.2.1) (st.2.2)) rfl j
 rw [if_neg g0]
 exact aT (l := vW z (st.2.1) (st.2.2)) rfl j
theorem ebLn23 (st : Nat × Int × LB) : (dG (pA st) && eG ko) = true := by
 unfold pA
 by_cases g0 : st.1 = 0
 ·rw [if_pos g0]; rfl
 rw [if_neg g0]
 rfl
noncomputable def BH (z : List (LB × LB)) (st : Nat × Int × LB) (X : Nat → Value) : Cx := cx (ay (CV z st) (rX (roLn23 z st) X)) (az (onLn23 z st)) 3 aG aJ
abbrev Fp (z : List (LB × LB)) (tag : Nat) (i : Int) (T : LB) : Prop := (0 ≤ i) ∧ (i ≤ (z.length : Int)) ∧ (z.length ≤ 40) ∧ (∀ q, q ∈ z → cf q) ∧ (okB z) ∧ (T = aq (z.take i.toNat)) ∧ ((T.length : Int) ≤ 2097156 * i) ∧ (tag = 0 → i = 0) ∧ (1 ≤ z.length) ∧ (tag < 2)
def kC (z : List (LB × LB)) (st : Nat × Int × LB) : Prop := Fp z st.1 (st.2.1) (st.2.2)
theorem Cj {z : List (LB × LB)} {tag : Nat} {i : Int} {T : LB} (h : Fp z tag i T) : kC z (tag, i, T) := h
theorem Bo (z : List (LB × LB)) (tag : Nat) (i : Int) (T : LB) (h : kC z (tag, i, T)) : Fp z tag i T := h
def oB (z : List (LB × LB)) (st : Nat × Int × LB) : Nat := (z.length - (st.2.1).toNat)
abbrev pO (z : List (LB × LB)) (E' : Cx) (ex' : Ex) (epx' : LA) (hpx' : LE) (st : Nat × Int × LB) (X : Nat → Value) : Prop := bm E' Ao ko 22 ex' 3 85 87 125 pA zd epx' hpx' (kC z) (oB z) (BH z) st X
noncomputable abbrev aQ4 (z : List (LB × LB)) (i : Int) (T : LB) (X : Nat → Value) : Cx := cx (ay (vX z i T) (rX (aL1 z i T) X)) (az (aT (l := vX z i T) rfl)) 3 aG aJ
noncomputable abbrev aP5 (h : LK) (x : Ex) (th : LA) (sg : List (Nat × Nat)) (m : Nat) (ep : LA) (hp : LE) : Bool := cr (code (aR h) 3000 [] Ao (cN (cV aO7 ko) 22) ⟨bA aO1 .leaf, 87, 0, 0⟩) x ko 22 125 th sg 85 m ep hp
theorem stLn23_0 {z : List (LB × LB)} {i : Int} {T : LB} {X : Nat → Value} {h : LK} (y : Nat × Int × LB) {th : LA} {sg : List (Nat × Nat)} (ho : ∀ a' r', (a', r') ∈ h → aS (aQ4 z i T X) a' r') (hy : kC z y) (lt : oB z y < oB z (0, i, T)) (ht : bN (aQ4 z i T X) (BH z y X) th) (run : aP5 h .normal th sg 87 (pA y) (zd y) = true) : pO z E' x' e' h' (0, i, T) X :=
 bm.next (tb := aR h) (L := []) (f := 3000) y ((ab _ _).hyps ho) (bU.nil _) rfl hy lt ht run
noncomputable abbrev BO (z : List (LB × LB)) (i : Int) (T : LB) (X : Nat → Value) : Cx := cx (ay (vW z i T) (rX (aL0 z i T) X)) (az (aT (l := vW z i T) rfl)) 3 aG aJ
noncomputable abbrev A8 (h : LK) (x : Ex) (th : LA) (sg : List (Nat × Nat)) (m : Nat) (ep : LA) (hp : LE) : Bool := cr (code (aR h) 3000 [] Ao (cN (cV AQ ko) 22) ⟨bA zb .leaf, 87, 0, 0⟩) x ko 22 125 th sg 85 m ep hp
theorem stLn23_1 {z : List (LB × LB)} {i : Int} {T : LB} {X : Nat → Value} {h : LK} (y : Nat × Int × LB) {th : LA} {sg : List (Nat × Nat)} (ho : ∀ a' r', (a', r') ∈ h → aS (BO z i T X) a' r') (hy : kC z y) (lt : oB z y < oB z (1, i, T)) (ht : bN (BO z i T X) (BH z y X) th) (run : A8 h .normal th sg 87 (pA y) (zd y) = true) : pO z E' x' e' h' (1, i, T) X :=
 bm.next (tb := aR h) (L := []) (f := 3000) y ((ab _ _).hyps ho) (bU.nil _) rfl hy lt ht run
theorem lvLn23_1 {z : List (LB × LB)} {i : Int} {T : LB} {X : Nat → Value} {h : LK} {th : LA} {sg : List (Nat × Nat)} (hne : eK x' .normal = false) (ho : ∀ a' r', (a', r') ∈ h → aS (BO z i T X) a' r') (ht : bN (BO z i T X) E' th) (run : A8 h x' th sg 125 e' h' = true) : pO z E' x' e' h' (1, i, T) X :=
 bm.leave (tb := aR h) (L := []) (f := 3000) ((ab _ _).hyps ho) (bU.nil _) rfl hne ht run
def Dh : LK := [(.bin .lss (.x 1) (.x 0), .b true), (.el (.x 2000000) (.x 1) 2 0, .x 3), (.el (.x 2000000) (.x 1) 2 1, .x 4), (.bin .add (.x 3) (.s 2 8250), .x 5), (.bin .add (.x 5) (.x 4), .x 6), (.bin .add (.x 6) (.s 2 2573), .x 7), (.cW (.x 7) (I6 0), .x 8), (.fit (.x 7), .b true), (.len (.x 7), .x 9), (.bin .add (.x 1) (I6 1), .x 10)]
theorem runLn23_p0 : aP5 Dh .normal [(0, .x 0), (1, .x 10), (2, .x 7), (2000000, .x 2000000)] [(85, 85), (86, 88)] 87 AQ zb = true := by kernel_rfl
def Dg : LK := [(.bin .lss (.x 1) (.x 0), .b true), (.el (.x 2000000) (.x 1) 2 0, .x 4), (.el (.x 2000000) (.x 1) 2 1, .x 5), (.bin .add (.x 4) (.s 2 8250), .x 6), (.bin .add (.x 6) (.x 5), .x 7), (.bin .add (.x 7) (.s 2 2573), .x 8), (.bin .add (.x 2) (.x 8), .x 9), (.fit (.x 9), .b true), (.len (.x 8), .x 10), (.bin .add (.x 1) (I6 1), .x 11)]
theorem runLn23_p1 : A8 Dg .normal [(0, .x 0), (1, .x 11), (2, .x 9), (2000000, .x 2000000)] [(85, 85), (86, 88)] 87 AQ zb = true := by kernel_rfl
def Df : LK := [(.bin .lss (.x 1) (.x 0), .b false)]
theorem runLn23_p2 : A8 Df (.exit 0) [(0, .x 2), (2000000, .x 2000000)] [(85, 85), (86, 86)] 125 [(3, .p 85 0)] [(23, .r 2000000 37 2 false), (85, bk 53 [.p 85 0, .sy 86]), (86, .t 0 5)] = true := by kernel_rfl
section
variable {z : List (LB × LB)} {i : Int} {T : LB} {X : Nat → Value}
theorem nxLn23_p0 (hI : kC z (0, i, T)) : pO z E' x' e' h' (0, i, T) X := by
 obtain ⟨i0, i1, i2, i3, i4, i5, i6, i7, i8, it⟩ := Bo z 0 i T hI
 have h6 := eX i4 i0 (by omega)
 have := eW (l := z) (by assumption) i.toNat
 have := hJ ((aU z i.toNat).1 ++ ([u8 58, u8 32] ++ ((aU z i.toNat).2 ++ [u8 13, u8 10]))) 0; have := hR ((aU z i.toNat).1 ++ ([u8 58, u8 32] ++ ((aU z i.toNat).2 ++ [u8 13, u8 10]))) 0
 have hsn := qV (z := z) (T := ([] : LB)) i0 (by omega) (by rw [i7 rfl]; rfl)
 have hpl := oF (aU z i.toNat); have hb2 : ([u8 58, u8 32] : LB).length = 2 := rfl; have hb3 : ([u8 13, u8 10] : LB).length = 2 := rfl
 have hsa : (([] : LB) ++ eY (aU z i.toNat)).length = ([] : LB).length + (eY (aU z i.toNat)).length := List.length_append
 refine stLn23_0 (h := Dh) (1, (i + 1), ((aU z i.toNat).1 ++ ([u8 58, u8 32] ++ ((aU z i.toNat).2 ++ [u8 13, u8 10])))) ?_ (Cj ⟨by omega, by omega, i2, i3, i4, hsn, by show (((eY (aU z i.toNat)).length : Nat) : Int) ≤ _; omega, by omega, i8, by omega⟩) (by show z.length - (i + 1).toNat < z.length - i.toNat; omega) (aW (v := .int .i64 ((z.length : Int))) (c8 (b := ((i + 1))) rfl rfl (by omega) (aW (v := St' ((aU z i.toNat).1 ++ ([u8 58, u8 32] ++ ((aU z i.toNat).2 ++ [u8 13, u8 10])))) (aW (v := aN aM z) (ao))))) runLn23_p0
 unfold Dh
 exact hc dO <|hc (cY (j := i.toNat) (d := ([], [])) bH (by decide) (aA rfl) (aA rfl) (aF rfl) (by omega) (by omega) rfl) <|hc (cY (j := i.toNat) (d := ([], [])) bH (by decide) (aA rfl) (aA rfl) (aF rfl) (by omega) (by omega) rfl) <|hc (aI (aA rfl) (aO (l := [u8 58, u8 32]) 2 8250 rfl) (aF rfl) (by first | rfl | (simp; done)) (by first | omega | (simp <;> omega))) <|hc (aI (aA rfl) (aA rfl) (aF rfl) (by first | rfl | (simp; done)) (by first | omega | (simp <;> omega))) <|hc (aI (aA rfl) (aO (l := [u8 13, u8 10]) 2 2573 rfl) (aF rfl) (by first | rfl | (simp; done)) (by first | omega | (simp <;> omega))) <|hc (dP (i := 0) (aA rfl) (bw (m := 0) rfl) (aF rfl) rfl (by first | omega | (simp <;> omega)) rfl) <|hc (dZ (aA rfl) (by first | omega | (simp <;> omega))) <|hc (bZ rfl rfl (by first | omega | (simp <;> omega))) <|hc cQ <|hnil
theorem nxLn23_p1 (hI : kC z (1, i, T)) (h0 : i < (z.length : Int)) : pO z E' x' e' h' (1, i, T) X := by
 obtain ⟨i0, i1, i2, i3, i4, i5, i6, i7, i8, it⟩ := Bo z 1 i T hI
 have h6 := eX i4 i0 (by omega)
 have := eW (l := z) (by assumption) i.toNat
 have hsn := qV (z := z) (T := T) i0 (by omega) i5
 have hpl := oF (aU z i.toNat); have hb2 : ([u8 58, u8 32] : LB).length = 2 := rfl; have hb3 : ([u8 13, u8 10] : LB).length = 2 := rfl
 have hsa : (T ++ eY (aU z i.toNat)).length = T.length + (eY (aU z i.toNat)).length := List.length_append
 refine stLn23_1 (h := Dg) (1, (i + 1), (T ++ ((aU z i.toNat).1 ++ ([u8 58, u8 32] ++ ((aU z i.toNat).2 ++ [u8 13, u8 10]))))) ?_ (Cj ⟨by omega, by omega, i2, i3, i4, hsn, by first | omega | (simp only [List.length_append, List.length_nil] at *; omega), by omega, i8, by omega⟩) (by show z.length - (i + 1).toNat < z.length - i.toNat; omega) (aW (v := .int .i64 ((z.length : Int))) (c8 (b := ((i + 1))) rfl rfl (by omega) (aW (v := St' (T ++ ((aU z i.toNat).1 ++ ([u8 58, u8 32] ++ ((aU z i.toNat).2 ++ [u8 13, u8 10]))))) (aW (v := aN aM z) (ao))))) runLn23_p1
 unfold Dg
 exact hc dO <|hc (cY (j := i.toNat) (d := ([], [])) bH (by decide) (aA rfl) (aA rfl) (aF rfl) (by omega) (by omega) rfl) <|hc (cY (j := i.toNat) (d := ([], [])) bH (by decide) (aA rfl) (aA rfl) (aF rfl) (by omega) (by omega) rfl) <|hc (aI (aA rfl) (aO (l := [u8 58, u8 32]) 2 8250 rfl) (aF rfl) (by first | rfl | (simp; done)) (by first | omega | (simp <;> omega))) <|hc (aI (aA rfl) (aA rfl) (aF rfl) (by first | rfl | (simp; done)) (by first | omega | (simp <;> omega))) <|hc (aI (aA rfl) (aO (l := [u8 13, u8 10]) 2 2573 rfl) (aF rfl) (by first | rfl | (simp; done)) (by first | omega | (simp <;> omega))) <|hc (aI (aA rfl) (aA rfl) (aF rfl) (by first | rfl | (simp; done)) (by first | omega | (simp <;> omega))) <|hc (dZ (aA rfl) (by first | omega | (simp <;> omega))) <|hc (bZ rfl rfl (by first | omega | (simp <;> omega))) <|hc cQ <|hnil
end
def aF9 (z : List (LB × LB)) : List Value := [St' (aq z)]
def roELn23_0 (z : List (LB × LB)) : List Value := [aN aM z]
noncomputable def bA0 (z : List (LB × LB)) : Cx := cx (ay (aF9 z) (rX (roELn23_0 z) (fun _ => .bool true))) (az (aT (l := aF9 z) rfl)) 3 aG aJ
theorem roundsLn23_0 (z : List (LB × LB)) (x0 : 1 ≤ z.length) (st : Nat × Int × LB) (X : Nat → Value) (hI : kC z st) : pO z (bA0 z) (.exit 0) [(3, .p 85 0)] [(23, .r 2000000 37 2 false), (85, bk 53 [.p 85 0, .sy 86]), (86, .t 0 5)] st X := by
 obtain ⟨tag, i, T⟩ := st
 have hI0 := hI
 obtain ⟨i0, i1, i2, i3, i4, i5, i6, i7, i8, it⟩ := Bo z tag i T hI
 rcases (show tag = 0 ∨ tag = 1 from by omega) with rfl | rfl
 ·exact nxLn23_p0 hI0
 ·by_cases h0 : i < (z.length : Int)
  ·exact nxLn23_p1 hI0 h0
  ·refine lvLn23_1 (h := Df) rfl ?_ (bn (v := St' T) (u := St' (aq z)) rfl rfl (congrArg (fun l => St' l) (Cr (by omega) i5)) (aW (v := aN aM z) (ao))) runLn23_p2
   unfold Df
   exact hc iJ <|hnil
theorem lfOkLn23_0 (z : List (LB × LB)) (x0 : 1 ≤ z.length) : cI (cx nu one 3 aG aJ) (bA0 z) Ao ko 22 (.exit 0) 3 85 87 125 pA zd [(3, .p 85 0)] [(23, .r 2000000 37 2 false), (85, bk 53 [.p 85 0, .sy 86]), (86, .t 0 5)] (kC z) (BH z) :=
 fb (oB z) (fun _ _ => rfl) (fun _ _ => rfl) (fun _ _ => rfl) (fun st X t ht => fX.trans (fV ((by decide : ∀ t, t ∈ ko → t < 1000000) t ht))) rfl rfl rfl ebLn23 rfl rfl (roundsLn23_0 z x0)
noncomputable def gH : FI := (bc.fn.get 23).getD default
theorem gy : bc.fn.get 23 = some gH := by kernel_rfl
theorem iT : gH.body = some (Tryd.f23.body.getD .skip) := by kernel_rfl
theorem AA : gH.body.isSome = true := by rw [iT]; rfl
theorem lW : (ct (Tryd.f23.body.getD .skip)).all (fun b => !(iM (Go.AX.keyOf b) 8888888)) = true := by kernel_rfl
def FW : List AV := [.sr 23]
def zf : LE := [(23, .r 2000000 37 2 false)]
def nuLa23 (z : List (LB × LB)) : List Value := [St' ([] : LB), .int .i64 ((z.length : Int)), St' (aq z), .int .u8 (bt (aq z) 0), .int .i64 (((aq z).length : Int)), St' ([] : LB), .int .i64 ((z.length : Int))]
def roLa23 (z : List (LB × LB)) : List Value := [aN aM z, bJ ([] : List LB), aN aM z, bJ ([] : List LB)]
noncomputable def sO (z : List (LB × LB)) : Cx := cx (ay (nuLa23 z) (rX (roLa23 z) (fun _ => .bool true))) (az (aT (l := nuLa23 z) rfl)) 3 aG aJ
def Dl : LK := [(.rl (.x 2000000) 2, .x 1), (.cW (.x 2) (I6 0), .x 3), (.len (.x 2), .x 4), (.fit (.x 2), .b true)]
def lh5 : LH := ⟨3, 85, 125, [(23, .r 2000000 37 2 false), (84, bk 53 [.bg, .bO])], [(23, .r 2000002 37 2 false), (85, bk 53 [.p 85 0, .sy 86]), (86, .t 2 5)]⟩
def lf5 : LF := ⟨3, 22, [(3, .p 84 0), (6, .sr 23), (7, .x 1), (8, I6 0)], [], (.exit 0), [(3, .p 85 0)], some lh5⟩
noncomputable def aE6 : Tab := bf ((aR Dl)) 23 gH [lf5]
theorem runLa23_c0 (e : Unit) : dA (call aE6 2000 23 FW ⟨bA zf ((fun _ : Unit => T.leaf) e), 84, 0, 0⟩) (.x 0) [(0, .x 2), (2000000, .x 2000002)] [] 84 144 [(23, .r 2000000 37 2 false)] = true := by kernel_rfl
def Dk : LK := [(.rl (.x 2000000) 2, .x 6), (.bin .lss (I6 0) (.x 6), .b false)]
noncomputable def aE5 : Tab := (aR Dk)
theorem runLa23_c1 (e : Unit) : dA (call aE5 2000 23 FW ⟨bA zf ((fun _ : Unit => T.leaf) e), 84, 0, 0⟩) (.x 0) [(0, .s 0 0), (2000000, .x 2000000)] [] 84 144 [(23, .r 2000000 37 2 false)] = true := by kernel_rfl
def aG1 (z : List (LB × LB)) : List Value := [St' (aq z)]
def roELa23_0 (z : List (LB × LB)) : List Value := [aN aM z]
noncomputable def Fc (z : List (LB × LB)) : Cx := cx (ay (aG1 z) (rX (roELa23_0 z) (fun _ => .bool true))) (az (aT (l := aG1 z) rfl)) 3 aG aJ
theorem Ai {l : LF} {h : LH} {qA : Nat × AV} (z : List (LB × LB)) (p0 : z.length ≤ 40) (p1 : ∀ q, q ∈ z → cf q) (p2 : okB z) (hl : l.hp = some h) (hq : l.post = [qA]) (hsA : ju l h 3 84 144 = true) {bD : LA} {a8 : List (Nat × Nat)} (cB : bN (cx nu one 3 aG aJ) (sO z) bD) (h0 : (iP bD (cd 84 84 a8) FW (l.pre.map (·.2)) && ck 84 84 bD a8 (bA h.pre .leaf) zf && cj (numsOf 84 a8 zf)) = true) {bB : LA} (cA : bN (Fc z) (cx nu one 3 aG aJ) bB) (hx : (inA bB (cd 84 144 []) 8 qA.2 (.x 0) && ck 84 144 bB [] (bA [(23, .r 2000000 37 2 false)] .leaf) h.post && cj (numsOf 84 [] h.post)) = true) : iY (cx nu one 3 aG aJ) 23 l := by
 have hlnl := dU z (by assumption)
 by_cases d0 : z.length = 0
 ·have ho : ∀ a' r', (a', r') ∈ Dk → aS (sO z) a' r' := by
   unfold Dk
   exact hc (cK bH (aA rfl) (aF rfl) (by first | omega | (simp <;> omega))) <|hc (kLt (bw (m := 0) rfl) (aA rfl) (decide_eq_false (by omega))) <|hnil
  exact dQ (D := sO z) (E := Fc z) (Gf := (fun _ : Unit => T.leaf)) (f := 2000) (tb := aE5) rfl rfl rfl rfl rfl rfl hl hq hsA rfl cB h0 cA hx ((ab _ _).hyps ho) rfl gy AA (.inl ⟨fun _ => rfl, ⟨()⟩⟩) (eF (show Is _ (.s 0 0) (St' (aq z)) from lA (v := St' ([] : LB)) (aO (l := ([] : LB)) 0 0 rfl) (congrArg (fun l => St' l) (lnS_0 (by omega)).symm)) (aW (v := aN aM z) (ao))) runLa23_c1
 ·have := hJ (aq z) 0; have := hR (aq z) 0
  have ho : ∀ a' r', (a', r') ∈ Dl → aS (sO z) a' r' := by
   unfold Dl
   exact hc (cK bH (aA rfl) (aF rfl) (by first | omega | (simp <;> omega))) <|hc (dP (i := 0) (aA rfl) (bw (m := 0) rfl) (aF rfl) rfl (by first | omega | (simp <;> omega)) rfl) <|hc bZ <|hc (dZ (aA rfl) (by first | omega | (simp <;> omega))) <|hnil
  exact dQ (D := sO z) (E := Fc z) (Gf := (fun _ : Unit => T.leaf)) (f := 2000) (tb := aE6) rfl rfl rfl rfl rfl rfl hl hq hsA rfl cB h0 cA hx (bM.dn ((ab _ _).hyps ho) (by omega) gy iT (bq (dm rfl ⟨0, keyLn23, cI.use (l := lf5) (h := lh5) (lfOkLn23_0 z (by omega)) (0, (0 : Int), ([] : LB)) (Cj ⟨by omega, by omega, by omega, by assumption, by assumption, rfl, by simp, fun _ => rfl, by omega, by omega⟩) rfl (by kernel_rfl) (bD := [(0, .x 1), (1, I6 0), (2000000, .x 2000000)]) (a8 := [(85, 84)]) (fun X => aW (v := .int .i64 ((z.length : Int))) (eF ed (aW (v := aN aM z) (ao)))) (by kernel_rfl) (bB := [(2, .x 0), (2000002, .x 2000000)]) (aW (v := St' (aq z)) (aW (v := aN aM z) (ao))) (by kernel_rfl)⟩) bj)) rfl (fh (by omega)) AA (.inl ⟨fun _ => rfl, ⟨()⟩⟩) (aW (v := St' (aq z)) (aW (v := aN aM z) (ao))) runLa23_c0
noncomputable def An : Code := fa (Tryd.f23.body.getD .skip) 0
theorem keyLn24 : fH (ct (Tryd.f23.body.getD .skip)) 3 0 0 = true := by kernel_rfl
def kn : List Nat := []
def aO6 : LA := [(3, .p 85 0), (6, .sr 24), (7, .x 0), (8, .x 1)]
def aO0 : LE := [(24, .r 2000000 37 2 false), (85, bk 53 [.bg, .bO])]
def vV (z : List (LB × LB)) (i : Int) (T : LB) : List Value := [.int .i64 ((z.length : Int)), .int .i64 (i), St' ([] : LB), St' ((aU z i.toNat).1), St' ((aU z i.toNat).2), St' ((aU z i.toNat).1 ++ [u8 58, u8 32]), St' ((aU z i.toNat).1 ++ ([u8 58, u8 32] ++ (aU z i.toNat).2)), St' ((aU z i.toNat).1 ++ ([u8 58, u8 32] ++ ((aU z i.toNat).2 ++ [u8 13, u8 10]))), .int .u8 (bt ((aU z i.toNat).1 ++ ([u8 58, u8 32] ++ ((aU z i.toNat).2 ++ [u8 13, u8 10]))) 0), .int .i64 (((aU z i.toNat).1.length : Int) + ((aU z i.toNat).2.length : Int) + 4), .int .i64 (i + 1)]
def aK9 (z : List (LB × LB)) (i : Int) (T : LB) : List Value := [aN aM z, bJ ([] : List LB)]
def AP : LA := [(3, .p 85 0), (6, .sr 24), (7, .x 0), (8, .x 1)]
def zZ : LE := [(24, .r 2000000 37 2 false), (85, bk 53 [.p 85 0, .sy 86]), (86, .t 2 5)]
def vU (z : List (LB × LB)) (i : Int) (T : LB) : List Value := [.int .i64 ((z.length : Int)), .int .i64 (i), St' T, St' ([] : LB), St' ((aU z i.toNat).1), St' ((aU z i.toNat).2), St' ((aU z i.toNat).1 ++ [u8 58, u8 32]), St' ((aU z i.toNat).1 ++ ([u8 58, u8 32] ++ (aU z i.toNat).2)), St' ((aU z i.toNat).1 ++ ([u8 58, u8 32] ++ ((aU z i.toNat).2 ++ [u8 13, u8 10]))), St' (T ++ ((aU z i.toNat).1 ++ ([u8 58, u8 32] ++ ((aU z i.toNat).2 ++ [u8 13, u8 10])))), .int .i64 (((aU z i.toNat).1.length : Int) + ((aU z i.toNat).2.length : Int) + 4), .int .i64 (i + 1), St' ([] : LB)]
def aK8 (z : List (LB × LB)) (i : Int) (T : LB) : List Value := [aN aM z, bJ ([] : List LB), bJ ([] : List LB)]
def o9 (st : Nat × Int × LB) : LA := if st.1 = 0 then aO6 else AP
def za (st : Nat × Int × LB) : LE := if st.1 = 0 then aO0 else zZ
def CU (z : List (LB × LB)) (st : Nat × Int × LB) : List Value := if st.1 = 0 then vV z (st.2.1) (st.2.2) else vU z (st.2.1) (st.2.2)
def roLn24 (z : List (LB × LB)) (st : Nat × Int × LB) : List Value := if st.1 = 0 then aK9 z (st.2.1) (st.2.2) else aK8 z (st.2.1) (st.2.2)
theorem onLn24 (z : List (LB × LB)) (st : Nat × Int × LB) : ∀ j, (aY (CU z st) j).oneCell' = true := by
 intro j
 unfold CU
 by_cases g0 : st.1 = 0
 ·rw [if_pos g0]; exact aT (l := vV z (st.2.1) (st.2.2)) rfl j
 rw [if_neg g0]
 exact aT (l := vU z (st.2.1) (st.2.2)) rfl j
theorem ebLn24 (st : Nat × Int × LB) : (dG (o9 st) && eG kn) = true := by
 unfold o9
 by_cases g0 : st.1 = 0
 ·rw [if_pos g0]; rfl
 rw [if_neg g0]
 rfl
noncomputable def BG (z : List (LB × LB)) (st : Nat × Int × LB) (X : Nat → Value) : Cx := cx (ay (CU z st) (rX (roLn24 z st) X)) (az (onLn24 z st)) 3 aG aJ
abbrev Fo (z : List (LB × LB)) (tag : Nat) (i : Int) (T : LB) : Prop := (0 ≤ i) ∧ (i ≤ (z.length : Int)) ∧ (z.length ≤ 40) ∧ (∀ q, q ∈ z → cf q) ∧ (okB z) ∧ (T = aq (z.take i.toNat)) ∧ ((T.length : Int) ≤ 2097156 * i) ∧ (tag = 0 → i = 0) ∧ (1 ≤ z.length) ∧ (tag < 2)
def kB (z : List (LB × LB)) (st : Nat × Int × LB) : Prop := Fo z st.1 (st.2.1) (st.2.2)
theorem Ci {z : List (LB × LB)} {tag : Nat} {i : Int} {T : LB} (h : Fo z tag i T) : kB z (tag, i, T) := h
theorem Bm (z : List (LB × LB)) (tag : Nat) (i : Int) (T : LB) (h : kB z (tag, i, T)) : Fo z tag i T := h
def oA (z : List (LB × LB)) (st : Nat × Int × LB) : Nat := (z.length - (st.2.1).toNat)
abbrev pN (z : List (LB × LB)) (E' : Cx) (ex' : Ex) (epx' : LA) (hpx' : LE) (st : Nat × Int × LB) (X : Nat → Value) : Prop := bm E' An kn 22 ex' 3 85 87 125 o9 za epx' hpx' (kB z) (oA z) (BG z) st X
noncomputable abbrev aQ3 (z : List (LB × LB)) (i : Int) (T : LB) (X : Nat → Value) : Cx := cx (ay (vV z i T) (rX (aK9 z i T) X)) (az (aT (l := vV z i T) rfl)) 3 aG aJ
noncomputable abbrev aP4 (h : LK) (x : Ex) (th : LA) (sg : List (Nat × Nat)) (m : Nat) (ep : LA) (hp : LE) : Bool := cr (code (aR h) 3000 [] An (cN (cV aO6 kn) 22) ⟨bA aO0 .leaf, 87, 0, 0⟩) x kn 22 125 th sg 85 m ep hp
theorem stLn24_0 {z : List (LB × LB)} {i : Int} {T : LB} {X : Nat → Value} {h : LK} (y : Nat × Int × LB) {th : LA} {sg : List (Nat × Nat)} (ho : ∀ a' r', (a', r') ∈ h → aS (aQ3 z i T X) a' r') (hy : kB z y) (lt : oA z y < oA z (0, i, T)) (ht : bN (aQ3 z i T X) (BG z y X) th) (run : aP4 h .normal th sg 87 (o9 y) (za y) = true) : pN z E' x' e' h' (0, i, T) X :=
 bm.next (tb := aR h) (L := []) (f := 3000) y ((ab _ _).hyps ho) (bU.nil _) rfl hy lt ht run
noncomputable abbrev BN (z : List (LB × LB)) (i : Int) (T : LB) (X : Nat → Value) : Cx := cx (ay (vU z i T) (rX (aK8 z i T) X)) (az (aT (l := vU z i T) rfl)) 3 aG aJ
noncomputable abbrev A7 (h : LK) (x : Ex) (th : LA) (sg : List (Nat × Nat)) (m : Nat) (ep : LA) (hp : LE) : Bool := cr (code (aR h) 3000 [] An (cN (cV AP kn) 22) ⟨bA zZ .leaf, 87, 0, 0⟩) x kn 22 125 th sg 85 m ep hp
theorem stLn24_1 {z : List (LB × LB)} {i : Int} {T : LB} {X : Nat → Value} {h : LK} (y : Nat × Int × LB) {th : LA} {sg : List (Nat × Nat)} (ho : ∀ a' r', (a', r') ∈ h → aS (BN z i T X) a' r') (hy : kB z y) (lt : oA z y < oA z (1, i, T)) (ht : bN (BN z i T X) (BG z y X) th) (run : A7 h .normal th sg 87 (o9 y) (za y) = true) : pN z E' x' e' h' (1, i, T) X :=
 bm.next (tb := aR h) (L := []) (f := 3000) y ((ab _ _).hyps ho) (bU.nil _) rfl hy lt ht run
theorem lvLn24_1 {z : List (LB × LB)} {i : Int} {T : LB} {X : Nat → Value} {h : LK} {th : LA} {sg : List (Nat × Nat)} (hne : eK x' .normal = false) (ho : ∀ a' r', (a', r') ∈ h → aS (BN z i T X) a' r') (ht : bN (BN z i T X) E' th) (run : A7 h x' th sg 125 e' h' = true) : pN z E' x' e' h' (1, i, T) X :=
 bm.leave (tb := aR h) (L := []) (f := 3000) ((ab _ _).hyps ho) (bU.nil _) rfl hne ht run
def De : LK := [(.bin .lss (.x 1) (.x 0), .b true), (.el (.x 2000000) (.x 1) 2 0, .x 3), (.el (.x 2000000) (.x 1) 2 1, .x 4), (.bin .add (.x 3) (.s 2 8250), .x 5), (.bin .add (.x 5) (.x 4), .x 6), (.bin .add (.x 6) (.s 2 2573), .x 7), (.cW (.x 7) (I6 0), .x 8), (.fit (.x 7), .b true), (.len (.x 7), .x 9), (.bin .add (.x 1) (I6 1), .x 10)]
theorem runLn24_p0 : aP4 De .normal [(0, .x 0), (1, .x 10), (2, .x 7), (2000000, .x 2000000)] [(85, 85), (86, 88)] 87 AP zZ = true := by kernel_rfl
def Dd : LK := [(.bin .lss (.x 1) (.x 0), .b true), (.el (.x 2000000) (.x 1) 2 0, .x 4), (.el (.x 2000000) (.x 1) 2 1, .x 5), (.bin .add (.x 4) (.s 2 8250), .x 6), (.bin .add (.x 6) (.x 5), .x 7), (.bin .add (.x 7) (.s 2 2573), .x 8), (.bin .add (.x 2) (.x 8), .x 9), (.fit (.x 9), .b true), (.len (.x 8), .x 10), (.bin .add (.x 1) (I6 1), .x 11)]
theorem runLn24_p1 : A7 Dd .normal [(0, .x 0), (1, .x 11), (2, .x 9), (2000000, .x 2000000)] [(85, 85), (86, 88)] 87 AP zZ = true := by kernel_rfl
def Dc : LK := [(.bin .lss (.x 1) (.x 0), .b false)]
theorem runLn24_p2 : A7 Dc (.exit 0) [(0, .x 2), (2000000, .x 2000000)] [(85, 85), (86, 86)] 125 [(3, .p 85 0)] [(24, .r 2000000 37 2 false), (85, bk 53 [.p 85 0, .sy 86]), (86, .t 0 5)] = true := by kernel_rfl
section
variable {z : List (LB × LB)} {i : Int} {T : LB} {X : Nat → Value}
theorem nxLn24_p0 (hI : kB z (0, i, T)) : pN z E' x' e' h' (0, i, T) X := by
 obtain ⟨i0, i1, i2, i3, i4, i5, i6, i7, i8, it⟩ := Bm z 0 i T hI
 have h6 := eX i4 i0 (by omega)
 have := eW (l := z) (by assumption) i.toNat
 have := hJ ((aU z i.toNat).1 ++ ([u8 58, u8 32] ++ ((aU z i.toNat).2 ++ [u8 13, u8 10]))) 0; have := hR ((aU z i.toNat).1 ++ ([u8 58, u8 32] ++ ((aU z i.toNat).2 ++ [u8 13, u8 10]))) 0
 have hsn := qV (z := z) (T := ([] : LB)) i0 (by omega) (by rw [i7 rfl]; rfl)
 have hpl := oF (aU z i.toNat); have hb2 : ([u8 58, u8 32] : LB).length = 2 := rfl; have hb3 : ([u8 13, u8 10] : LB).length = 2 := rfl
 have hsa : (([] : LB) ++ eY (aU z i.toNat)).length = ([] : LB).length + (eY (aU z i.toNat)).length := List.length_append
 refine stLn24_0 (h := De) (1, (i + 1), ((aU z i.toNat).1 ++ ([u8 58, u8 32] ++ ((aU z i.toNat).2 ++ [u8 13, u8 10])))) ?_ (Ci ⟨by omega, by omega, i2, i3, i4, hsn, by show (((eY (aU z i.toNat)).length : Nat) : Int) ≤ _; omega, by omega, i8, by omega⟩) (by show z.length - (i + 1).toNat < z.length - i.toNat; omega) (aW (v := .int .i64 ((z.length : Int))) (c8 (b := ((i + 1))) rfl rfl (by omega) (aW (v := St' ((aU z i.toNat).1 ++ ([u8 58, u8 32] ++ ((aU z i.toNat).2 ++ [u8 13, u8 10])))) (aW (v := aN aM z) (ao))))) runLn24_p0
 unfold De
 exact hc dO <|hc (cY (j := i.toNat) (d := ([], [])) bH (by decide) (aA rfl) (aA rfl) (aF rfl) (by omega) (by omega) rfl) <|hc (cY (j := i.toNat) (d := ([], [])) bH (by decide) (aA rfl) (aA rfl) (aF rfl) (by omega) (by omega) rfl) <|hc (aI (aA rfl) (aO (l := [u8 58, u8 32]) 2 8250 rfl) (aF rfl) (by first | rfl | (simp; done)) (by first | omega | (simp <;> omega))) <|hc (aI (aA rfl) (aA rfl) (aF rfl) (by first | rfl | (simp; done)) (by first | omega | (simp <;> omega))) <|hc (aI (aA rfl) (aO (l := [u8 13, u8 10]) 2 2573 rfl) (aF rfl) (by first | rfl | (simp; done)) (by first | omega | (simp <;> omega))) <|hc (dP (i := 0) (aA rfl) (bw (m := 0) rfl) (aF rfl) rfl (by first | omega | (simp <;> omega)) rfl) <|hc (dZ (aA rfl) (by first | omega | (simp <;> omega))) <|hc (bZ rfl rfl (by first | omega | (simp <;> omega))) <|hc cQ <|hnil
theorem nxLn24_p1 (hI : kB z (1, i, T)) (h0 : i < (z.length : Int)) : pN z E' x' e' h' (1, i, T) X := by
 obtain ⟨i0, i1, i2, i3, i4, i5, i6, i7, i8, it⟩ := Bm z 1 i T hI
 have h6 := eX i4 i0 (by omega)
 have := eW (l := z) (by assumption) i.toNat
 have hsn := qV (z := z) (T := T) i0 (by omega) i5
 have hpl := oF (aU z i.toNat); have hb2 : ([u8 58, u8 32] : LB).length = 2 := rfl; have hb3 : ([u8 13, u8 10] : LB).length = 2 := rfl
 have hsa : (T ++ eY (aU z i.toNat)).length = T.length + (eY (aU z i.toNat)).length := List.length_append
 refine stLn24_1 (h := Dd) (1, (i + 1), (T ++ ((aU z i.toNat).1 ++ ([u8 58, u8 32] ++ ((aU z i.toNat).2 ++ [u8 13, u8 10]))))) ?_ (Ci ⟨by omega, by omega, i2, i3, i4, hsn, by first | omega | (simp only [List.length_append, List.length_nil] at *; omega), by omega, i8, by omega⟩) (by show z.length - (i + 1).toNat < z.length - i.toNat; omega) (aW (v := .int .i64 ((z.length : Int))) (c8 (b := ((i + 1))) rfl rfl (by omega) (aW (v := St' (T ++ ((aU z i.toNat).1 ++ ([u8 58, u8 32] ++ ((aU z i.toNat).2 ++ [u8 13, u8 10]))))) (aW (v := aN aM z) (ao))))) runLn24_p1
 unfold Dd
 exact hc dO <|hc (cY (j := i.toNat) (d := ([], [])) bH (by decide) (aA rfl) (aA rfl) (aF rfl) (by omega) (by omega) rfl) <|hc (cY (j := i.toNat) (d := ([], [])) bH (by decide) (aA rfl) (aA rfl) (aF rfl) (by omega) (by omega) rfl) <|hc (aI (aA rfl) (aO (l := [u8 58, u8 32]) 2 8250 rfl) (aF rfl) (by first | rfl | (simp; done)) (by first | omega | (simp <;> omega))) <|hc (aI (aA rfl) (aA rfl) (aF rfl) (by first | rfl | (simp; done)) (by first | omega | (simp <;> omega))) <|hc (aI (aA rfl) (aO (l := [u8 13, u8 10]) 2 2573 rfl) (aF rfl) (by first | rfl | (simp; done)) (by first | omega | (simp <;> omega))) <|hc (aI (aA rfl) (aA rfl) (aF rfl) (by first | rfl | (simp; done)) (by first | omega | (simp <;> omega))) <|hc (dZ (aA rfl) (by first | omega | (simp <;> omega))) <|hc (bZ rfl rfl (by first | omega | (simp <;> omega))) <|hc cQ <|hnil
end
def aF8 (z : List (LB × LB)) : List Value := [St' (aq z)]
def roELn24_0 (z : List (LB × LB)) : List Value := [aN aM z]
noncomputable def aZ9 (z : List (LB × LB)) : Cx := cx (ay (aF8 z) (rX (roELn24_0 z) (fun _ => .bool true))) (az (aT (l := aF8 z) rfl)) 3 aG aJ
theorem roundsLn24_0 (z : List (LB × LB)) (x0 : 1 ≤ z.length) (st : Nat × Int × LB) (X : Nat → Value) (hI : kB z st) : pN z (aZ9 z) (.exit 0) [(3, .p 85 0)] [(24, .r 2000000 37 2 false), (85, bk 53 [.p 85 0, .sy 86]), (86, .t 0 5)] st X := by
 obtain ⟨tag, i, T⟩ := st
 have hI0 := hI
 obtain ⟨i0, i1, i2, i3, i4, i5, i6, i7, i8, it⟩ := Bm z tag i T hI
 rcases (show tag = 0 ∨ tag = 1 from by omega) with rfl | rfl
 ·exact nxLn24_p0 hI0
 ·by_cases h0 : i < (z.length : Int)
  ·exact nxLn24_p1 hI0 h0
  ·refine lvLn24_1 (h := Dc) rfl ?_ (bn (v := St' T) (u := St' (aq z)) rfl rfl (congrArg (fun l => St' l) (Cr (by omega) i5)) (aW (v := aN aM z) (ao))) runLn24_p2
   unfold Dc
   exact hc iJ <|hnil
theorem lfOkLn24_0 (z : List (LB × LB)) (x0 : 1 ≤ z.length) : cI (cx nu one 3 aG aJ) (aZ9 z) An kn 22 (.exit 0) 3 85 87 125 o9 za [(3, .p 85 0)] [(24, .r 2000000 37 2 false), (85, bk 53 [.p 85 0, .sy 86]), (86, .t 0 5)] (kB z) (BG z) :=
 fb (oA z) (fun _ _ => rfl) (fun _ _ => rfl) (fun _ _ => rfl) (fun st X t ht => fX.trans (fV ((by decide : ∀ t, t ∈ kn → t < 1000000) t ht))) rfl rfl rfl ebLn24 rfl rfl (roundsLn24_0 z x0)
def FV : List AV := [.sr 24]
def ze : LE := [(24, .r 2000000 37 2 false)]
def nuLa24 (z : List (LB × LB)) : List Value := [St' ([] : LB), .int .i64 ((z.length : Int)), St' (aq z), .int .u8 (bt (aq z) 0), .int .i64 (((aq z).length : Int)), St' ([] : LB), .int .i64 ((z.length : Int))]
def roLa24 (z : List (LB × LB)) : List Value := [aN aM z, bJ ([] : List LB), aN aM z, bJ ([] : List LB)]
noncomputable def sM (z : List (LB × LB)) : Cx := cx (ay (nuLa24 z) (rX (roLa24 z) (fun _ => .bool true))) (az (aT (l := nuLa24 z) rfl)) 3 aG aJ
def Dj : LK := [(.rl (.x 2000000) 2, .x 1), (.cW (.x 2) (I6 0), .x 3), (.len (.x 2), .x 4), (.fit (.x 2), .b true)]
def lh8 : LH := ⟨3, 85, 125, [(24, .r 2000000 37 2 false), (84, bk 53 [.bg, .bO])], [(24, .r 2000002 37 2 false), (85, bk 53 [.p 85 0, .sy 86]), (86, .t 2 5)]⟩
def lf8 : LF := ⟨3, 22, [(3, .p 84 0), (6, .sr 24), (7, .x 1), (8, I6 0)], [], (.exit 0), [(3, .p 85 0)], some lh8⟩
noncomputable def aE4 : Tab := bf ((aR Dj)) 23 gH [lf8]
theorem runLa24_c0 (e : Unit) : dA (call aE4 2000 23 FV ⟨bA ze ((fun _ : Unit => T.leaf) e), 84, 0, 0⟩) (.x 0) [(0, .x 2), (2000000, .x 2000002)] [] 84 144 [(24, .r 2000000 37 2 false)] = true := by kernel_rfl
def Di : LK := [(.rl (.x 2000000) 2, .x 6), (.bin .lss (I6 0) (.x 6), .b false)]
noncomputable def aE3 : Tab := (aR Di)
theorem runLa24_c1 (e : Unit) : dA (call aE3 2000 23 FV ⟨bA ze ((fun _ : Unit => T.leaf) e), 84, 0, 0⟩) (.x 0) [(0, .s 0 0), (2000000, .x 2000000)] [] 84 144 [(24, .r 2000000 37 2 false)] = true := by kernel_rfl
def aG0 (z : List (LB × LB)) : List Value := [St' (aq z)]
def roELa24_0 (z : List (LB × LB)) : List Value := [aN aM z]
noncomputable def Fb (z : List (LB × LB)) : Cx := cx (ay (aG0 z) (rX (roELa24_0 z) (fun _ => .bool true))) (az (aT (l := aG0 z) rfl)) 3 aG aJ
theorem Ah {l : LF} {h : LH} {qA : Nat × AV} (z : List (LB × LB)) (p0 : z.length ≤ 40) (p1 : ∀ q, q ∈ z → cf q) (p2 : okB z) (hl : l.hp = some h) (hq : l.post = [qA]) (hsA : ju l h 3 84 144 = true) {bD : LA} {a8 : List (Nat × Nat)} (cB : bN (cx nu one 3 aG aJ) (sM z) bD) (h0 : (iP bD (cd 84 84 a8) FV (l.pre.map (·.2)) && ck 84 84 bD a8 (bA h.pre .leaf) ze && cj (numsOf 84 a8 ze)) = true) {bB : LA} (cA : bN (Fb z) (cx nu one 3 aG aJ) bB) (hx : (inA bB (cd 84 144 []) 8 qA.2 (.x 0) && ck 84 144 bB [] (bA [(24, .r 2000000 37 2 false)] .leaf) h.post && cj (numsOf 84 [] h.post)) = true) : iY (cx nu one 3 aG aJ) 23 l := by
 have hlnl := dU z (by assumption)
 by_cases d0 : z.length = 0
 ·have ho : ∀ a' r', (a', r') ∈ Di → aS (sM z) a' r' := by
   unfold Di
   exact hc (cK bH (aA rfl) (aF rfl) (by first | omega | (simp <;> omega))) <|hc (kLt (bw (m := 0) rfl) (aA rfl) (decide_eq_false (by omega))) <|hnil
  exact dQ (D := sM z) (E := Fb z) (Gf := (fun _ : Unit => T.leaf)) (f := 2000) (tb := aE3) rfl rfl rfl rfl rfl rfl hl hq hsA rfl cB h0 cA hx ((ab _ _).hyps ho) rfl gy AA (.inl ⟨fun _ => rfl, ⟨()⟩⟩) (eF (show Is _ (.s 0 0) (St' (aq z)) from lA (v := St' ([] : LB)) (aO (l := ([] : LB)) 0 0 rfl) (congrArg (fun l => St' l) (lnS_0 (by omega)).symm)) (aW (v := aN aM z) (ao))) runLa24_c1
 ·have := hJ (aq z) 0; have := hR (aq z) 0
  have ho : ∀ a' r', (a', r') ∈ Dj → aS (sM z) a' r' := by
   unfold Dj
   exact hc (cK bH (aA rfl) (aF rfl) (by first | omega | (simp <;> omega))) <|hc (dP (i := 0) (aA rfl) (bw (m := 0) rfl) (aF rfl) rfl (by first | omega | (simp <;> omega)) rfl) <|hc bZ <|hc (dZ (aA rfl) (by first | omega | (simp <;> omega))) <|hnil
  exact dQ (D := sM z) (E := Fb z) (Gf := (fun _ : Unit => T.leaf)) (f := 2000) (tb := aE4) rfl rfl rfl rfl rfl rfl hl hq hsA rfl cB h0 cA hx (bM.dn ((ab _ _).hyps ho) (by omega) gy iT (bq (dm rfl ⟨0, keyLn24, cI.use (l := lf8) (h := lh8) (lfOkLn24_0 z (by omega)) (0, (0 : Int), ([] : LB)) (Ci ⟨by omega, by omega, by omega, by assumption, by assumption, rfl, by simp, fun _ => rfl, by omega, by omega⟩) rfl (by kernel_rfl) (bD := [(0, .x 1), (1, I6 0), (2000000, .x 2000000)]) (a8 := [(85, 84)]) (fun X => aW (v := .int .i64 ((z.length : Int))) (eF ed (aW (v := aN aM z) (ao)))) (by kernel_rfl) (bB := [(2, .x 0), (2000002, .x 2000000)]) (aW (v := St' (aq z)) (aW (v := aN aM z) (ao))) (by kernel_rfl)⟩) bj)) rfl (fh (by omega)) AA (.inl ⟨fun _ => rfl, ⟨()⟩⟩) (aW (v := St' (aq z)) (aW (v := aN aM z) (ao))) runLa24_c0
end Go.Proofs.YtngkglegomkjkaaDoor.replyTells

