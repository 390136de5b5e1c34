/- A part of the proof: what an interpreter answers on partly known states is what the program answers. No condition. -/
import Derived.Test.YtcjanblpboaleaaDoorU1CgiCutsO7
set_option maxRecDepth 100000
set_option linter.unusedVariables false
set_option linter.unusedSimpArgs false
set_option maxHeartbeats 4000000
namespace Go.Proofs.YtcjanblpboaleaaDoor.cgiCuts
open Go Go.AX Go.Proofs Go.Proofs.YtcjanblpboaleaaDoor
variable {nu : Nat → Value} {one : ∀ i, i < 1000000 → (nu i).oneCell' = true} {E' : Cx} {x' : Ex} {e' : LA} {h' : LE}
noncomputable def uQ : Code := gi (Tryd.f38.body.getD .skip) 0
theorem keyDr : gC (di (Tryd.f38.body.getD .skip)) 3 0 0 = true := by kernel_rfl
def kJ : List Nat := []
def GB : LA := [(1, .x 0), (5, .aL), (8, .sr 41), (10, .x 2), (9, .x 1)]
def Ff : LE := [(41, .r 2000000 50 2 false)]
def xo (z : List (LB × LB)) (nm : LB) (i : Int) (O : List (LB × LB)) : List Value := [St' nm, .int .i64 ((z.length : Int)), .int .i64 (i), St' ((ay z i.toNat).1), St' ((ay z i.toNat).2), St' (az ((ay z i.toNat).1)), St' (az nm), .int .i64 (i + 1), St' ((ay z i.toNat).1), St' ((ay z i.toNat).2), St' (az ((ay z i.toNat).1)), St' (az nm), .int .i64 (i + 1)]
def roDr_0 (z : List (LB × LB)) (nm : LB) (i : Int) (O : List (LB × LB)) : List Value := [aN aO z, af ([] : List LB), af ([] : List LB), af ([] : List LB), aN aO (([] : List (LB × LB)) ++ [((ay z i.toNat).1, (ay z i.toNat).2)])]
def uF : LA := [(1, .x 0), (5, .sr 604), (8, .sr 41), (10, .x 2), (9, .x 1)]
def tQ : LE := [(41, .r 2000000 50 2 false), (604, .r 2000001 50 2 false)]
def xn (z : List (LB × LB)) (nm : LB) (i : Int) (O : List (LB × LB)) : List Value := [St' nm, .int .i64 ((z.length : Int)), .int .i64 (i), St' ((ay z i.toNat).1), St' ((ay z i.toNat).2), St' (az ((ay z i.toNat).1)), St' (az nm), .int .i64 (i + 1), St' ((ay z i.toNat).1), St' ((ay z i.toNat).2), St' (az ((ay z i.toNat).1)), St' (az nm), .int .i64 (i + 1)]
def roDr_1 (z : List (LB × LB)) (nm : LB) (i : Int) (O : List (LB × LB)) : List Value := [aN aO z, aN aO O, af ([] : List LB), af ([] : List LB), af ([] : List LB), aN aO (O ++ [((ay z i.toNat).1, (ay z i.toNat).2)])]
def oT (st : Nat × Int × List (LB × LB)) : LA := if st.1 = 0 then GB else uF
def tR (st : Nat × Int × List (LB × LB)) : LE := if st.1 = 0 then Ff else tQ
def nuDr (z : List (LB × LB)) (nm : LB) (st : Nat × Int × List (LB × LB)) : List Value := if st.1 = 0 then xo z nm (st.2.1) (st.2.2) else xn z nm (st.2.1) (st.2.2)
def roDr (z : List (LB × LB)) (nm : LB) (st : Nat × Int × List (LB × LB)) : List Value := if st.1 = 0 then roDr_0 z nm (st.2.1) (st.2.2) else roDr_1 z nm (st.2.1) (st.2.2)
theorem onDr (z : List (LB × LB)) (nm : LB) (st : Nat × Int × List (LB × LB)) : ∀ j, (bA (nuDr z nm st) j).oneCell' = true := by
 intro j
 unfold nuDr
 by_cases g0 : st.1 = 0
 ·rw [if_pos g0]; exact aV (l := xo z nm (st.2.1) (st.2.2)) rfl j
 rw [if_neg g0]
 exact aV (l := xn z nm (st.2.1) (st.2.2)) rfl j
theorem ebDr (st : Nat × Int × List (LB × LB)) : (dX (oT st) && ef kJ) = true := by
 unfold oT
 by_cases g0 : st.1 = 0
 ·rw [if_pos g0]; rfl
 rw [if_neg g0]
 rfl
noncomputable def DDr (z : List (LB × LB)) (nm : LB) (st : Nat × Int × List (LB × LB)) (X : Nat → Value) : Cx := cx (bG (nuDr z nm st) (rX (roDr z nm st) X)) (bJ (onDr z nm st)) 1 aH aQ
abbrev CjDr (z : List (LB × LB)) (nm : LB) (tag : Nat) (i : Int) (O : List (LB × LB)) : Prop := (0 ≤ i) ∧ (i ≤ (z.length : Int)) ∧ (z.length ≤ 1000) ∧ (∀ q, q ∈ z → jW q) ∧ (nm.length ≤ 140737488351232 ∧ ∀ q, q ∈ z → q.1.length ≤ 140737488351232) ∧ (O = dC nm (z.take i.toNat)) ∧ (tag = 0 → O = []) ∧ (tag = 1 → 1 ≤ O.length) ∧ (tag < 2)
def iS (z : List (LB × LB)) (nm : LB) (st : Nat × Int × List (LB × LB)) : Prop := CjDr z nm st.1 (st.2.1) (st.2.2)
theorem pU {z : List (LB × LB)} {nm : LB} {tag : Nat} {i : Int} {O : List (LB × LB)} (h : CjDr z nm tag i O) : iS z nm (tag, i, O) := h
theorem o4 (z : List (LB × LB)) (nm : LB) (tag : Nat) (i : Int) (O : List (LB × LB)) (h : iS z nm (tag, i, O)) : CjDr z nm tag i O := h
def n8 (z : List (LB × LB)) (nm : LB) (st : Nat × Int × List (LB × LB)) : Nat := (z.length - (st.2.1).toNat)
abbrev kf (z : List (LB × LB)) (nm : LB) (E' : Cx) (ex' : Ex) (epx' : LA) (hpx' : LE) (st : Nat × Int × List (LB × LB)) (X : Nat → Value) : Prop := bj E' uQ kJ 25 ex' 4 604 605 644 oT tR epx' hpx' (iS z nm) (n8 z nm) (DDr z nm) st X
noncomputable abbrev BZ (z : List (LB × LB)) (nm : LB) (i : Int) (O : List (LB × LB)) (X : Nat → Value) : Cx := cx (bG (xo z nm i O) (rX (roDr_0 z nm i O) X)) (bJ (aV (l := xo z nm i O) rfl)) 1 aH aQ
noncomputable abbrev ug (h : LK) (x : Ex) (th : LA) (sg : List (Nat × Nat)) (m : Nat) (ep : LA) (hp : LE) : Bool := bP (code (aT h) 3000 [] uQ (bD (bH GB kJ) 25) ⟨ae Ff .leaf, 605, 0, 0⟩) x kJ 25 644 th sg 604 m ep hp
theorem stDr_0 {z : List (LB × LB)} {nm : LB} {i : Int} {O : List (LB × LB)} {X : Nat → Value} {h : LK} (y : Nat × Int × List (LB × LB)) {th : LA} {sg : List (Nat × Nat)} (ho : ∀ a' r', (a', r') ∈ h → aM (BZ z nm i O X) a' r') (hy : iS z nm y) (lt : n8 z nm y < n8 z nm (0, i, O)) (ht : bE (BZ z nm i O X) (DDr z nm y X) th) (run : ug h .normal th sg 605 (oT y) (tR y) = true) : kf z nm E' x' e' h' (0, i, O) X :=
 bj.next (tb := aT h) (L := []) (f := 3000) y ((ab _ _).hyps ho) (bV.nil _) rfl hy lt ht run
theorem lvDr_0 {z : List (LB × LB)} {nm : LB} {i : Int} {O : List (LB × LB)} {X : Nat → Value} {h : LK} {th : LA} {sg : List (Nat × Nat)} (hne : cn x' .normal = false) (ho : ∀ a' r', (a', r') ∈ h → aM (BZ z nm i O X) a' r') (ht : bE (BZ z nm i O X) E' th) (run : ug h x' th sg 644 e' h' = true) : kf z nm E' x' e' h' (0, i, O) X :=
 bj.leave (tb := aT h) (L := []) (f := 3000) ((ab _ _).hyps ho) (bV.nil _) rfl hne ht run
noncomputable abbrev BX (z : List (LB × LB)) (nm : LB) (i : Int) (O : List (LB × LB)) (X : Nat → Value) : Cx := cx (bG (xn z nm i O) (rX (roDr_1 z nm i O) X)) (bJ (aV (l := xn z nm i O) rfl)) 1 aH aQ
noncomputable abbrev uf (h : LK) (x : Ex) (th : LA) (sg : List (Nat × Nat)) (m : Nat) (ep : LA) (hp : LE) : Bool := bP (code (aT h) 3000 [] uQ (bD (bH uF kJ) 25) ⟨ae tQ .leaf, 605, 0, 0⟩) x kJ 25 644 th sg 604 m ep hp
theorem stDr_1 {z : List (LB × LB)} {nm : LB} {i : Int} {O : List (LB × LB)} {X : Nat → Value} {h : LK} (y : Nat × Int × List (LB × LB)) {th : LA} {sg : List (Nat × Nat)} (ho : ∀ a' r', (a', r') ∈ h → aM (BX z nm i O X) a' r') (hy : iS z nm y) (lt : n8 z nm y < n8 z nm (1, i, O)) (ht : bE (BX z nm i O X) (DDr z nm y X) th) (run : uf h .normal th sg 605 (oT y) (tR y) = true) : kf z nm E' x' e' h' (1, i, O) X :=
 bj.next (tb := aT h) (L := []) (f := 3000) y ((ab _ _).hyps ho) (bV.nil _) rfl hy lt ht run
theorem lvDr_1 {z : List (LB × LB)} {nm : LB} {i : Int} {O : List (LB × LB)} {X : Nat → Value} {h : LK} {th : LA} {sg : List (Nat × Nat)} (hne : cn x' .normal = false) (ho : ∀ a' r', (a', r') ∈ h → aM (BX z nm i O X) a' r') (ht : bE (BX z nm i O X) E' th) (run : uf h x' th sg 644 e' h' = true) : kf z nm E' x' e' h' (1, i, O) X :=
 bj.leave (tb := aT h) (L := []) (f := 3000) ((ab _ _).hyps ho) (bV.nil _) rfl hne ht run
def FP : LK := [(.bin .lss (.x 2) (.x 1), .b true), (.el (.x 2000000) (.x 2) 2 0, .x 3), (.el (.x 2000000) (.x 2) 2 1, .x 4), (.call 66 [.x 3], .x 5), (.call 66 [.x 0], .x 6), (.bin .eql (.x 5) (.x 6), .b true), (.bin .add (.x 2) (I6 1), .x 7)]
theorem runDr_p0 : ug FP .normal [(0, .x 0), (1, .x 1), (2, .x 7), (2000000, .x 2000000)] [] 605 GB Ff = true := by kernel_rfl
def FO : LK := [(.bin .lss (.x 2) (.x 1), .b false)]
theorem runDr_p1 : ug FO (.exit 0) [(2000000, .x 2000000)] [] 644 [(5, .aL)] [(41, .r 2000000 50 2 false)] = true := by kernel_rfl
def FN : LK := [(.rn, .x 2000003), (.bin .lss (.x 2) (.x 1), .b true), (.el (.x 2000000) (.x 2) 2 0, .x 8), (.el (.x 2000000) (.x 2) 2 1, .x 9), (.call 66 [.x 8], .x 10), (.call 66 [.x 0], .x 11), (.bin .eql (.x 10) (.x 11), .b false), (.ra (.x 2000003) [.x 8, .x 9], .x 2000004), (.rf (.x 2000004) 2 32, .b true), (.bin .add (.x 2) (I6 1), .x 12)]
theorem runDr_p2 : ug FN .normal [(0, .x 0), (1, .x 1), (2, .x 12), (2000000, .x 2000000), (2000001, .x 2000004)] [(604, 607)] 605 uF tQ = true := by kernel_rfl
def FM : LK := [(.bin .lss (.x 2) (.x 1), .b true), (.el (.x 2000000) (.x 2) 2 0, .x 3), (.el (.x 2000000) (.x 2) 2 1, .x 4), (.call 66 [.x 3], .x 5), (.call 66 [.x 0], .x 6), (.bin .eql (.x 5) (.x 6), .b true), (.bin .add (.x 2) (I6 1), .x 7)]
theorem runDr_p3 : uf FM .normal [(0, .x 0), (1, .x 1), (2, .x 7), (2000000, .x 2000000), (2000001, .x 2000001)] [(604, 604)] 605 uF tQ = true := by kernel_rfl
def FL : LK := [(.bin .lss (.x 2) (.x 1), .b false)]
theorem runDr_p4 : uf FL (.exit 0) [(2000000, .x 2000000), (2000001, .x 2000001)] [(604, 604)] 644 [(5, .sr 604)] [(41, .r 2000000 50 2 false), (604, .r 2000001 50 2 false)] = true := by kernel_rfl
def FK : LK := [(.bin .lss (.x 2) (.x 1), .b true), (.el (.x 2000000) (.x 2) 2 0, .x 8), (.el (.x 2000000) (.x 2) 2 1, .x 9), (.call 66 [.x 8], .x 10), (.call 66 [.x 0], .x 11), (.bin .eql (.x 10) (.x 11), .b false), (.ra (.x 2000001) [.x 8, .x 9], .x 2000005), (.rf (.x 2000005) 2 32, .b true), (.bin .add (.x 2) (I6 1), .x 12)]
theorem runDr_p5 : uf FK .normal [(0, .x 0), (1, .x 1), (2, .x 12), (2000000, .x 2000000), (2000001, .x 2000005)] [(604, 607)] 605 uF tQ = true := by kernel_rfl
section
variable {z : List (LB × LB)} {nm : LB} {i : Int} {O : List (LB × LB)} {X : Nat → Value}
theorem aT3 (hI : iS z nm (0, i, O)) (h0 : i < (z.length : Int)) (h1 : (az ((ay z i.toNat).1)) = (az nm)) : kf z nm E' x' e' h' (0, i, O) X := by
 obtain ⟨i0, i1, i2, i3, i4, i5, i6, i7, it⟩ := o4 z nm 0 i O hI
 have hnm := mT i4.2 i.toNat
 have hO := congrArg List.length i5
 have hO2 := lz nm (z.take i.toNat)
 have hO3 : (z.take i.toNat).length ≤ z.length := by rw [List.length_take]; omega
 have := lL (l := z) (by assumption) i.toNat
 have : (az ((ay z i.toNat).1)).length = ((ay z i.toNat).1).length := List.length_map ..
 have : (az nm).length = nm.length := List.length_map ..
 refine stDr_0 (h := FP) (0, i + 1, ([] : List (LB × LB))) ?_ (pU ⟨by omega, by omega, i2, i3, i4, by rw [aX9 (by omega) (by omega) (by assumption)]; exact (i6 (by omega)).symm.trans i5, fun _ => rfl, by omega, by omega⟩) (by show z.length - (i + 1).toNat < z.length - i.toNat; omega) (aB (v := St' nm) (aB (v := .int .i64 ((z.length : Int))) (bc (b := ((i + 1))) rfl rfl (by omega) (aB (v := aN aO z) (aI))))) runDr_p0
 unfold FP
 exact hc bU <|hc (eP (j := i.toNat) (d := ([], [])) cL (by decide) (aA rfl) (aA rfl) (aG rfl) (by omega) (by omega) rfl) <|hc (eP (j := i.toNat) (d := ([], [])) cL (by decide) (aA rfl) (aA rfl) (aG rfl) (by omega) (by omega) rfl) <|hc (fo (s := (ay z i.toNat).1) (aA rfl) (aG rfl)) <|hc (fo (s := nm) (aA rfl) (aG rfl)) <|hc (bu (aA rfl) (aA rfl) (by first | exact decide_eq_true rfl | exact decide_eq_true ‹_› | exact decide_eq_false ‹_›)) <|hc au <|hnil
theorem aT2 (hI : iS z nm (0, i, O)) (h0 : i < (z.length : Int)) (h1 : ¬ ((az ((ay z i.toNat).1)) = (az nm))) : kf z nm E' x' e' h' (0, i, O) X := by
 obtain ⟨i0, i1, i2, i3, i4, i5, i6, i7, it⟩ := o4 z nm 0 i O hI
 have hnm := mT i4.2 i.toNat
 have hO := congrArg List.length i5
 have hO2 := lz nm (z.take i.toNat)
 have hO3 : (z.take i.toNat).length ≤ z.length := by rw [List.length_take]; omega
 have := lL (l := z) (by assumption) i.toNat
 have : (az ((ay z i.toNat).1)).length = ((ay z i.toNat).1).length := List.length_map ..
 have : (az nm).length = nm.length := List.length_map ..
 refine stDr_0 (h := FN) (1, i + 1, (([] : List (LB × LB)) ++ [((ay z i.toNat).1, (ay z i.toNat).2)])) ?_ (pU ⟨by omega, by omega, i2, i3, i4, by rw [aX8 (by omega) (by omega) (by assumption), ← i5, i6 (by omega)], by omega, fun _ => by simp, by omega⟩) (by show z.length - (i + 1).toNat < z.length - i.toNat; omega) (aB (v := St' nm) (aB (v := .int .i64 ((z.length : Int))) (bc (b := ((i + 1))) rfl rfl (by omega) (aB (v := aN aO z) (aB (v := aN aO (([] : List (LB × LB)) ++ [((ay z i.toNat).1, (ay z i.toNat).2)])) (aI)))))) runDr_p2
 unfold FN
 exact hc (iI (aG rfl)) <|hc bU <|hc (eP (j := i.toNat) (d := ([], [])) cL (by decide) (aA rfl) (aA rfl) (aG rfl) (by omega) (by omega) rfl) <|hc (eP (j := i.toNat) (d := ([], [])) cL (by decide) (aA rfl) (aA rfl) (aG rfl) (by omega) (by omega) rfl) <|hc (fo (s := (ay z i.toNat).1) (aA rfl) (aG rfl)) <|hc (fo (s := nm) (aA rfl) (aG rfl)) <|hc (bu (aA rfl) (aA rfl) (by first | exact decide_eq_true rfl | exact decide_eq_true ‹_› | exact decide_eq_false ‹_›)) <|hc (sx (f := aO) (l := ([] : List (LB × LB))) (a := ((ay z i.toNat).1, (ay z i.toNat).2)) (aA rfl) (tH (aA rfl) (aA rfl)) (aG rfl)) <|hc (lV cL (aA rfl) (by first | omega | (simp <;> omega)) (by first | omega | (simp <;> omega))) <|hc au <|hnil
theorem aT1 (hI : iS z nm (1, i, O)) (h0 : i < (z.length : Int)) (h1 : (az ((ay z i.toNat).1)) = (az nm)) : kf z nm E' x' e' h' (1, i, O) X := by
 obtain ⟨i0, i1, i2, i3, i4, i5, i6, i7, it⟩ := o4 z nm 1 i O hI
 have hnm := mT i4.2 i.toNat
 have hO := congrArg List.length i5
 have hO2 := lz nm (z.take i.toNat)
 have hO3 : (z.take i.toNat).length ≤ z.length := by rw [List.length_take]; omega
 have := lL (l := z) (by assumption) i.toNat
 have : (az ((ay z i.toNat).1)).length = ((ay z i.toNat).1).length := List.length_map ..
 have : (az nm).length = nm.length := List.length_map ..
 refine stDr_1 (h := FM) (1, i + 1, O) ?_ (pU ⟨by omega, by omega, i2, i3, i4, by rw [aX9 (by omega) (by omega) (by assumption)]; exact i5, by omega, i7, by omega⟩) (by show z.length - (i + 1).toNat < z.length - i.toNat; omega) (aB (v := St' nm) (aB (v := .int .i64 ((z.length : Int))) (bc (b := ((i + 1))) rfl rfl (by omega) (aB (v := aN aO z) (aB (v := aN aO O) (aI)))))) runDr_p3
 unfold FM
 exact hc bU <|hc (eP (j := i.toNat) (d := ([], [])) cL (by decide) (aA rfl) (aA rfl) (aG rfl) (by omega) (by omega) rfl) <|hc (eP (j := i.toNat) (d := ([], [])) cL (by decide) (aA rfl) (aA rfl) (aG rfl) (by omega) (by omega) rfl) <|hc (fo (s := (ay z i.toNat).1) (aA rfl) (aG rfl)) <|hc (fo (s := nm) (aA rfl) (aG rfl)) <|hc (bu (aA rfl) (aA rfl) (by first | exact decide_eq_true rfl | exact decide_eq_true ‹_› | exact decide_eq_false ‹_›)) <|hc au <|hnil
theorem aT0 (hI : iS z nm (1, i, O)) (h0 : i < (z.length : Int)) (h1 : ¬ ((az ((ay z i.toNat).1)) = (az nm))) : kf z nm E' x' e' h' (1, i, O) X := by
 obtain ⟨i0, i1, i2, i3, i4, i5, i6, i7, it⟩ := o4 z nm 1 i O hI
 have hnm := mT i4.2 i.toNat
 have hO := congrArg List.length i5
 have hO2 := lz nm (z.take i.toNat)
 have hO3 : (z.take i.toNat).length ≤ z.length := by rw [List.length_take]; omega
 have := lL (l := z) (by assumption) i.toNat
 have : (az ((ay z i.toNat).1)).length = ((ay z i.toNat).1).length := List.length_map ..
 have : (az nm).length = nm.length := List.length_map ..
 refine stDr_1 (h := FK) (1, i + 1, (O ++ [((ay z i.toNat).1, (ay z i.toNat).2)])) ?_ (pU ⟨by omega, by omega, i2, i3, i4, by rw [aX8 (by omega) (by omega) (by assumption), ← i5], by omega, fun _ => by simp, by omega⟩) (by show z.length - (i + 1).toNat < z.length - i.toNat; omega) (aB (v := St' nm) (aB (v := .int .i64 ((z.length : Int))) (bc (b := ((i + 1))) rfl rfl (by omega) (aB (v := aN aO z) (aB (v := aN aO (O ++ [((ay z i.toNat).1, (ay z i.toNat).2)])) (aI)))))) runDr_p5
 unfold FK
 exact hc bU <|hc (eP (j := i.toNat) (d := ([], [])) cL (by decide) (aA rfl) (aA rfl) (aG rfl) (by omega) (by omega) rfl) <|hc (eP (j := i.toNat) (d := ([], [])) cL (by decide) (aA rfl) (aA rfl) (aG rfl) (by omega) (by omega) rfl) <|hc (fo (s := (ay z i.toNat).1) (aA rfl) (aG rfl)) <|hc (fo (s := nm) (aA rfl) (aG rfl)) <|hc (bu (aA rfl) (aA rfl) (by first | exact decide_eq_true rfl | exact decide_eq_true ‹_› | exact decide_eq_false ‹_›)) <|hc (sx (f := aO) (l := O) (a := ((ay z i.toNat).1, (ay z i.toNat).2)) (aA rfl) (tH (aA rfl) (aA rfl)) (aG rfl)) <|hc (lV cL (aA rfl) (by first | omega | (simp <;> omega)) (by first | omega | (simp <;> omega))) <|hc au <|hnil
end
def aW0 (z : List (LB × LB)) (nm : LB) : List Value := []
def roEDr_0 (z : List (LB × LB)) (nm : LB) : List Value := [aN aO z]
noncomputable def EDr_0 (z : List (LB × LB)) (nm : LB) : Cx := cx (bG (aW0 z nm) (rX (roEDr_0 z nm) (fun _ => .bool true))) (bJ (aV (l := aW0 z nm) rfl)) 1 aH aQ
theorem roundsDr_0 (z : List (LB × LB)) (nm : LB) (x0 : dC nm z = []) (st : Nat × Int × List (LB × LB)) (X : Nat → Value) (hI : iS z nm st) : kf z nm (EDr_0 z nm) (.exit 0) [(5, .aL)] [(41, .r 2000000 50 2 false)] st X := by
 obtain ⟨tag, i, O⟩ := st
 have hI0 := hI
 obtain ⟨i0, i1, i2, i3, i4, i5, i6, i7, it⟩ := o4 z nm tag i O hI
 rcases (show tag = 0 ∨ tag = 1 from by omega) with rfl | rfl
 ·by_cases h0 : i < (z.length : Int)
  ·by_cases h1 : (az ((ay z i.toNat).1)) = (az nm)
   ·exact aT3 hI0 h0 h1
   ·exact aT2 hI0 h0 h1
  ·have iM := Ac (nm := nm) (z := z) (i := i) (by omega) (by omega)
   refine lvDr_0 (h := FO) rfl ?_ (aB (v := aN aO z) (aI)) runDr_p1
   unfold FO
   exact hc dV <|hnil
 ·by_cases h0 : i < (z.length : Int)
  ·by_cases h1 : (az ((ay z i.toNat).1)) = (az nm)
   ·exact aT1 hI0 h0 h1
   ·exact aT0 hI0 h0 h1
  ·exfalso; have iM := Ac (nm := nm) (z := z) (i := i) (by omega) (by omega); have hL := i7 (by omega); rw [i5, iM, x0] at hL; simp at hL
theorem lfOkDr_0 (z : List (LB × LB)) (nm : LB) (x0 : dC nm z = []) : bI (cx nu one 1 aH aQ) (EDr_0 z nm) uQ kJ 25 (.exit 0) 4 604 605 644 oT tR [(5, .aL)] [(41, .r 2000000 50 2 false)] (iS z nm) (DDr z nm) :=
 dW (n8 z nm) (fun _ _ => rfl) (fun _ _ => rfl) (fun _ _ => rfl) (fun st X t ht => dT.trans (dS ((by decide : ∀ t, t ∈ kJ → t < 1000000) t ht))) rfl rfl rfl ebDr rfl rfl (roundsDr_0 z nm x0)
def aV9 (z : List (LB × LB)) (nm : LB) : List Value := []
def roEDr_1 (z : List (LB × LB)) (nm : LB) : List Value := [aN aO z, aN aO (dC nm z)]
noncomputable def EDr_1 (z : List (LB × LB)) (nm : LB) : Cx := cx (bG (aV9 z nm) (rX (roEDr_1 z nm) (fun _ => .bool true))) (bJ (aV (l := aV9 z nm) rfl)) 1 aH aQ
theorem roundsDr_1 (z : List (LB × LB)) (nm : LB) (x0 : 1 ≤ (dC nm z).length) (st : Nat × Int × List (LB × LB)) (X : Nat → Value) (hI : iS z nm st) : kf z nm (EDr_1 z nm) (.exit 0) [(5, .sr 604)] [(41, .r 2000000 50 2 false), (604, .r 2000001 50 2 false)] st X := by
 obtain ⟨tag, i, O⟩ := st
 have hI0 := hI
 obtain ⟨i0, i1, i2, i3, i4, i5, i6, i7, it⟩ := o4 z nm tag i O hI
 rcases (show tag = 0 ∨ tag = 1 from by omega) with rfl | rfl
 ·by_cases h0 : i < (z.length : Int)
  ·by_cases h1 : (az ((ay z i.toNat).1)) = (az nm)
   ·exact aT3 hI0 h0 h1
   ·exact aT2 hI0 h0 h1
  ·exfalso; have iM := Ac (nm := nm) (z := z) (i := i) (by omega) (by omega); have hO := i6 (by omega); rw [hO, iM] at i5; rw [← i5] at x0; simp at x0
 ·by_cases h0 : i < (z.length : Int)
  ·by_cases h1 : (az ((ay z i.toNat).1)) = (az nm)
   ·exact aT1 hI0 h0 h1
   ·exact aT0 hI0 h0 h1
  ·have iM := Ac (nm := nm) (z := z) (i := i) (by omega) (by omega)
   refine lvDr_1 (h := FL) rfl ?_ (aB (v := aN aO z) (ah (v := aN aO O) (u := aN aO (dC nm z)) rfl rfl (congrArg (aN aO) (i5.trans iM)) (aI))) runDr_p4
   unfold FL
   exact hc dV <|hnil
theorem lfOkDr_1 (z : List (LB × LB)) (nm : LB) (x0 : 1 ≤ (dC nm z).length) : bI (cx nu one 1 aH aQ) (EDr_1 z nm) uQ kJ 25 (.exit 0) 4 604 605 644 oT tR [(5, .sr 604)] [(41, .r 2000000 50 2 false), (604, .r 2000001 50 2 false)] (iS z nm) (DDr z nm) :=
 dW (n8 z nm) (fun _ _ => rfl) (fun _ _ => rfl) (fun _ _ => rfl) (fun st X t ht => dT.trans (dS ((by decide : ∀ t, t ∈ kJ → t < 1000000) t ht))) rfl rfl rfl ebDr rfl rfl (roundsDr_1 z nm x0)
end Go.Proofs.YtcjanblpboaleaaDoor.cgiCuts

