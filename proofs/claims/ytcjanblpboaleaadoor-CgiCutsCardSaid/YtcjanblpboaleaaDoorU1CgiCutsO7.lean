/- A part of the proof: what an interpreter answers on partly known states is what the program answers. No condition. -/
import Derived.Test.YtcjanblpboaleaaDoorU1CgiCutsO6
set_option maxRecDepth 100000
set_option linter.unusedVariables false
set_option linter.unusedSimpArgs false
set_option maxHeartbeats 4000000
namespace Go.Proofs.YtcjanblpboaleaaDoor.cgiCuts
open Go Go.AX Go.Proofs Go.Proofs.YtcjanblpboaleaaDoor
variable {nu : Nat → Value} {one : ∀ i, i < 1000000 → (nu i).oneCell' = true} {E' : Cx} {x' : Ex} {e' : LA} {h' : LE}
noncomputable def uP : Code := gi (Tryd.f54.body.getD .skip) 0
theorem keyGt : gC (di (Tryd.f54.body.getD .skip)) 3 0 0 = true := by kernel_rfl
def kI : List Nat := []
def GA : LA := [(1, .x 0), (5, .aL), (8, .sr 41), (10, .x 2), (9, .x 1)]
def Fe : LE := [(41, .r 2000000 50 2 false)]
def xj (z : List (LB × LB)) (nm : LB) (i : Int) (O : List LB) : List Value := [St' nm, .int .i64 ((z.length : Int)), .int .i64 (i), St' ((ay z i.toNat).1), St' ((ay z i.toNat).2), St' (az ((ay z i.toNat).1)), St' (az nm), .int .i64 (i + 1), St' ((ay z i.toNat).1), St' ((ay z i.toNat).2), St' (az ((ay z i.toNat).1)), St' (az nm), .int .i64 (i + 1)]
def roGt_0 (z : List (LB × LB)) (nm : LB) (i : Int) (O : List LB) : List Value := [aN aO z, af ([] : List LB), af (([] : List LB) ++ [(ay z i.toNat).2]), af ([] : List LB), af ([] : List LB)]
def uE : LA := [(1, .x 0), (5, .sr 64), (8, .sr 41), (10, .x 2), (9, .x 1)]
def tO : LE := [(41, .r 2000000 50 2 false), (64, .r 2000001 9 1 false)]
def xi (z : List (LB × LB)) (nm : LB) (i : Int) (O : List LB) : List Value := [St' nm, .int .i64 ((z.length : Int)), .int .i64 (i), St' ((ay z i.toNat).1), St' ((ay z i.toNat).2), St' (az ((ay z i.toNat).1)), St' (az nm), .int .i64 (i + 1), St' ((ay z i.toNat).1), St' ((ay z i.toNat).2), St' (az ((ay z i.toNat).1)), St' (az nm), .int .i64 (i + 1)]
def roGt_1 (z : List (LB × LB)) (nm : LB) (i : Int) (O : List LB) : List Value := [aN aO z, af O, af ([] : List LB), af (O ++ [(ay z i.toNat).2]), af ([] : List LB), af ([] : List LB)]
def oS (st : Nat × Int × List LB) : LA := if st.1 = 0 then GA else uE
def tP (st : Nat × Int × List LB) : LE := if st.1 = 0 then Fe else tO
def nuGt (z : List (LB × LB)) (nm : LB) (st : Nat × Int × List LB) : List Value := if st.1 = 0 then xj z nm (st.2.1) (st.2.2) else xi z nm (st.2.1) (st.2.2)
def roGt (z : List (LB × LB)) (nm : LB) (st : Nat × Int × List LB) : List Value := if st.1 = 0 then roGt_0 z nm (st.2.1) (st.2.2) else roGt_1 z nm (st.2.1) (st.2.2)
theorem onGt (z : List (LB × LB)) (nm : LB) (st : Nat × Int × List LB) : ∀ j, (bA (nuGt z nm st) j).oneCell' = true := by
 intro j
 unfold nuGt
 by_cases g0 : st.1 = 0
 ·rw [if_pos g0]; exact aV (l := xj z nm (st.2.1) (st.2.2)) rfl j
 rw [if_neg g0]
 exact aV (l := xi z nm (st.2.1) (st.2.2)) rfl j
theorem ebGt (st : Nat × Int × List LB) : (dX (oS st) && ef kI) = true := by
 unfold oS
 by_cases g0 : st.1 = 0
 ·rw [if_pos g0]; rfl
 rw [if_neg g0]
 rfl
noncomputable def DGt (z : List (LB × LB)) (nm : LB) (st : Nat × Int × List LB) (X : Nat → Value) : Cx := cx (bG (nuGt z nm st) (rX (roGt z nm st) X)) (bJ (onGt z nm st)) 1 aH aQ
abbrev CjGt (z : List (LB × LB)) (nm : LB) (tag : Nat) (i : Int) (O : List LB) : Prop := (0 ≤ i) ∧ (i ≤ (z.length : Int)) ∧ (z.length ≤ 1000) ∧ (∀ q, q ∈ z → jW q) ∧ (nm.length ≤ 140737488351232 ∧ ∀ q, q ∈ z → q.1.length ≤ 140737488351232) ∧ (O = ax nm (z.take i.toNat)) ∧ (tag = 0 → O = []) ∧ (tag = 1 → 1 ≤ O.length) ∧ (tag < 2)
def iR (z : List (LB × LB)) (nm : LB) (st : Nat × Int × List LB) : Prop := CjGt z nm st.1 (st.2.1) (st.2.2)
theorem pT {z : List (LB × LB)} {nm : LB} {tag : Nat} {i : Int} {O : List LB} (h : CjGt z nm tag i O) : iR z nm (tag, i, O) := h
theorem o0 (z : List (LB × LB)) (nm : LB) (tag : Nat) (i : Int) (O : List LB) (h : iR z nm (tag, i, O)) : CjGt z nm tag i O := h
def n7 (z : List (LB × LB)) (nm : LB) (st : Nat × Int × List LB) : Nat := (z.length - (st.2.1).toNat)
abbrev ke (z : List (LB × LB)) (nm : LB) (E' : Cx) (ex' : Ex) (epx' : LA) (hpx' : LE) (st : Nat × Int × List LB) (X : Nat → Value) : Prop := bj E' uP kI 25 ex' 4 64 65 104 oS tP epx' hpx' (iR z nm) (n7 z nm) (DGt z nm) st X
noncomputable abbrev BW (z : List (LB × LB)) (nm : LB) (i : Int) (O : List LB) (X : Nat → Value) : Cx := cx (bG (xj z nm i O) (rX (roGt_0 z nm i O) X)) (bJ (aV (l := xj z nm i O) rfl)) 1 aH aQ
noncomputable abbrev ue (h : LK) (x : Ex) (th : LA) (sg : List (Nat × Nat)) (m : Nat) (ep : LA) (hp : LE) : Bool := bP (code (aT h) 3000 [] uP (bD (bH GA kI) 25) ⟨ae Fe .leaf, 65, 0, 0⟩) x kI 25 104 th sg 64 m ep hp
theorem stGt_0 {z : List (LB × LB)} {nm : LB} {i : Int} {O : List LB} {X : Nat → Value} {h : LK} (y : Nat × Int × List LB) {th : LA} {sg : List (Nat × Nat)} (ho : ∀ a' r', (a', r') ∈ h → aM (BW z nm i O X) a' r') (hy : iR z nm y) (lt : n7 z nm y < n7 z nm (0, i, O)) (ht : bE (BW z nm i O X) (DGt z nm y X) th) (run : ue h .normal th sg 65 (oS y) (tP y) = true) : ke z nm E' x' e' h' (0, i, O) X :=
 bj.next (tb := aT h) (L := []) (f := 3000) y ((ab _ _).hyps ho) (bV.nil _) rfl hy lt ht run
theorem lvGt_0 {z : List (LB × LB)} {nm : LB} {i : Int} {O : List LB} {X : Nat → Value} {h : LK} {th : LA} {sg : List (Nat × Nat)} (hne : cn x' .normal = false) (ho : ∀ a' r', (a', r') ∈ h → aM (BW z nm i O X) a' r') (ht : bE (BW z nm i O X) E' th) (run : ue h x' th sg 104 e' h' = true) : ke z nm E' x' e' h' (0, i, O) X :=
 bj.leave (tb := aT h) (L := []) (f := 3000) ((ab _ _).hyps ho) (bV.nil _) rfl hne ht run
noncomputable abbrev BV (z : List (LB × LB)) (nm : LB) (i : Int) (O : List LB) (X : Nat → Value) : Cx := cx (bG (xi z nm i O) (rX (roGt_1 z nm i O) X)) (bJ (aV (l := xi z nm i O) rfl)) 1 aH aQ
noncomputable abbrev ud (h : LK) (x : Ex) (th : LA) (sg : List (Nat × Nat)) (m : Nat) (ep : LA) (hp : LE) : Bool := bP (code (aT h) 3000 [] uP (bD (bH uE kI) 25) ⟨ae tO .leaf, 65, 0, 0⟩) x kI 25 104 th sg 64 m ep hp
theorem stGt_1 {z : List (LB × LB)} {nm : LB} {i : Int} {O : List LB} {X : Nat → Value} {h : LK} (y : Nat × Int × List LB) {th : LA} {sg : List (Nat × Nat)} (ho : ∀ a' r', (a', r') ∈ h → aM (BV z nm i O X) a' r') (hy : iR z nm y) (lt : n7 z nm y < n7 z nm (1, i, O)) (ht : bE (BV z nm i O X) (DGt z nm y X) th) (run : ud h .normal th sg 65 (oS y) (tP y) = true) : ke z nm E' x' e' h' (1, i, O) X :=
 bj.next (tb := aT h) (L := []) (f := 3000) y ((ab _ _).hyps ho) (bV.nil _) rfl hy lt ht run
theorem lvGt_1 {z : List (LB × LB)} {nm : LB} {i : Int} {O : List LB} {X : Nat → Value} {h : LK} {th : LA} {sg : List (Nat × Nat)} (hne : cn x' .normal = false) (ho : ∀ a' r', (a', r') ∈ h → aM (BV z nm i O X) a' r') (ht : bE (BV z nm i O X) E' th) (run : ud h x' th sg 104 e' h' = true) : ke z nm E' x' e' h' (1, i, O) X :=
 bj.leave (tb := aT h) (L := []) (f := 3000) ((ab _ _).hyps ho) (bV.nil _) rfl hne ht run
def Eo : LK := [(.rn, .x 2000001), (.bin .lss (.x 2) (.x 1), .b true), (.el (.x 2000000) (.x 2) 2 0, .x 3), (.el (.x 2000000) (.x 2) 2 1, .x 4), (.call 66 [.x 3], .x 5), (.call 66 [.x 0], .x 6), (.bin .eql (.x 5) (.x 6), .b true), (.ra (.x 2000001) [.x 4], .x 2000002), (.rf (.x 2000002) 1 16, .b true), (.bin .add (.x 2) (I6 1), .x 7)]
theorem runGt_p0 : ue Eo .normal [(0, .x 0), (1, .x 1), (2, .x 7), (2000000, .x 2000000), (2000001, .x 2000002)] [(64, 67)] 65 uE tO = true := by kernel_rfl
def En : LK := [(.bin .lss (.x 2) (.x 1), .b false)]
theorem runGt_p1 : ue En (.exit 0) [(2000000, .x 2000000)] [] 104 [(5, .aL)] [(41, .r 2000000 50 2 false)] = true := by kernel_rfl
def Em : LK := [(.bin .lss (.x 2) (.x 1), .b true), (.el (.x 2000000) (.x 2) 2 0, .x 8), (.el (.x 2000000) (.x 2) 2 1, .x 9), (.call 66 [.x 8], .x 10), (.call 66 [.x 0], .x 11), (.bin .eql (.x 10) (.x 11), .b false), (.bin .add (.x 2) (I6 1), .x 12)]
theorem runGt_p2 : ue Em .normal [(0, .x 0), (1, .x 1), (2, .x 12), (2000000, .x 2000000)] [] 65 GA Fe = true := by kernel_rfl
def El : LK := [(.bin .lss (.x 2) (.x 1), .b true), (.el (.x 2000000) (.x 2) 2 0, .x 3), (.el (.x 2000000) (.x 2) 2 1, .x 4), (.call 66 [.x 3], .x 5), (.call 66 [.x 0], .x 6), (.bin .eql (.x 5) (.x 6), .b true), (.ra (.x 2000001) [.x 4], .x 2000003), (.rf (.x 2000003) 1 16, .b true), (.bin .add (.x 2) (I6 1), .x 7)]
theorem runGt_p3 : ud El .normal [(0, .x 0), (1, .x 1), (2, .x 7), (2000000, .x 2000000), (2000001, .x 2000003)] [(64, 67)] 65 uE tO = true := by kernel_rfl
def Ek : LK := [(.bin .lss (.x 2) (.x 1), .b false)]
theorem runGt_p4 : ud Ek (.exit 0) [(2000000, .x 2000000), (2000001, .x 2000001)] [(64, 64)] 104 [(5, .sr 64)] [(41, .r 2000000 50 2 false), (64, .r 2000001 9 1 false)] = true := by kernel_rfl
def Ej : LK := [(.bin .lss (.x 2) (.x 1), .b true), (.el (.x 2000000) (.x 2) 2 0, .x 8), (.el (.x 2000000) (.x 2) 2 1, .x 9), (.call 66 [.x 8], .x 10), (.call 66 [.x 0], .x 11), (.bin .eql (.x 10) (.x 11), .b false), (.bin .add (.x 2) (I6 1), .x 12)]
theorem runGt_p5 : ud Ej .normal [(0, .x 0), (1, .x 1), (2, .x 12), (2000000, .x 2000000), (2000001, .x 2000001)] [(64, 64)] 65 uE tO = true := by kernel_rfl
section
variable {z : List (LB × LB)} {nm : LB} {i : Int} {O : List LB} {X : Nat → Value}
theorem aS9 (hI : iR z nm (0, i, O)) (h0 : i < (z.length : Int)) (h1 : (az ((ay z i.toNat).1)) = (az nm)) : ke z nm E' x' e' h' (0, i, O) X := by
 obtain ⟨i0, i1, i2, i3, i4, i5, i6, i7, it⟩ := o0 z nm 0 i O hI
 have hnm := mT i4.2 i.toNat
 have hO := congrArg List.length i5
 have hO2 := dO nm (z.take i.toNat)
 have hO3 : (z.take i.toNat).length ≤ z.length := by rw [List.length_take]; omega
 have := lL (l := z) (by assumption) i.toNat
 have : (az ((ay z i.toNat).1)).length = ((ay z i.toNat).1).length := List.length_map ..
 have : (az nm).length = nm.length := List.length_map ..
 refine stGt_0 (h := Eo) (1, i + 1, (([] : List LB) ++ [(ay z i.toNat).2])) ?_ (pT ⟨by omega, by omega, i2, i3, i4, by rw [getS_y (by omega) (by omega) (by assumption), ← i5, i6 (by omega)], by omega, fun _ => by simp, by omega⟩) (by show z.length - (i + 1).toNat < z.length - i.toNat; omega) (aB (v := St' nm) (aB (v := .int .i64 ((z.length : Int))) (bc (b := ((i + 1))) rfl rfl (by omega) (aB (v := aN aO z) (aB (v := af (([] : List LB) ++ [(ay z i.toNat).2])) (aI)))))) runGt_p0
 unfold Eo
 exact hc (iI (aG rfl)) <|hc bU <|hc (eP (j := i.toNat) (d := ([], [])) cL (by decide) (aA rfl) (aA rfl) (aG rfl) (by omega) (by omega) rfl) <|hc (eP (j := i.toNat) (d := ([], [])) cL (by decide) (aA rfl) (aA rfl) (aG rfl) (by omega) (by omega) rfl) <|hc (fo (s := (ay z i.toNat).1) (aA rfl) (aG rfl)) <|hc (fo (s := nm) (aA rfl) (aG rfl)) <|hc (bu (aA rfl) (aA rfl) (by first | exact decide_eq_true rfl | exact decide_eq_true ‹_› | exact decide_eq_false ‹_›)) <|hc (kRa (aA rfl) (aA rfl) (aG rfl)) <|hc (kRf (aA rfl) (by first | omega | (simp <;> omega)) (by first | omega | (simp <;> omega))) <|hc au <|hnil
theorem aS8 (hI : iR z nm (0, i, O)) (h0 : i < (z.length : Int)) (h1 : ¬ ((az ((ay z i.toNat).1)) = (az nm))) : ke z nm E' x' e' h' (0, i, O) X := by
 obtain ⟨i0, i1, i2, i3, i4, i5, i6, i7, it⟩ := o0 z nm 0 i O hI
 have hnm := mT i4.2 i.toNat
 have hO := congrArg List.length i5
 have hO2 := dO nm (z.take i.toNat)
 have hO3 : (z.take i.toNat).length ≤ z.length := by rw [List.length_take]; omega
 have := lL (l := z) (by assumption) i.toNat
 have : (az ((ay z i.toNat).1)).length = ((ay z i.toNat).1).length := List.length_map ..
 have : (az nm).length = nm.length := List.length_map ..
 refine stGt_0 (h := Em) (0, i + 1, ([] : List LB)) ?_ (pT ⟨by omega, by omega, i2, i3, i4, by rw [getS_n (by omega) (by omega) (by assumption)]; exact (i6 (by omega)).symm.trans i5, fun _ => rfl, by omega, by omega⟩) (by show z.length - (i + 1).toNat < z.length - i.toNat; omega) (aB (v := St' nm) (aB (v := .int .i64 ((z.length : Int))) (bc (b := ((i + 1))) rfl rfl (by omega) (aB (v := aN aO z) (aI))))) runGt_p2
 unfold Em
 exact hc bU <|hc (eP (j := i.toNat) (d := ([], [])) cL (by decide) (aA rfl) (aA rfl) (aG rfl) (by omega) (by omega) rfl) <|hc (eP (j := i.toNat) (d := ([], [])) cL (by decide) (aA rfl) (aA rfl) (aG rfl) (by omega) (by omega) rfl) <|hc (fo (s := (ay z i.toNat).1) (aA rfl) (aG rfl)) <|hc (fo (s := nm) (aA rfl) (aG rfl)) <|hc (bu (aA rfl) (aA rfl) (by first | exact decide_eq_true rfl | exact decide_eq_true ‹_› | exact decide_eq_false ‹_›)) <|hc au <|hnil
theorem aS7 (hI : iR z nm (1, i, O)) (h0 : i < (z.length : Int)) (h1 : (az ((ay z i.toNat).1)) = (az nm)) : ke z nm E' x' e' h' (1, i, O) X := by
 obtain ⟨i0, i1, i2, i3, i4, i5, i6, i7, it⟩ := o0 z nm 1 i O hI
 have hnm := mT i4.2 i.toNat
 have hO := congrArg List.length i5
 have hO2 := dO nm (z.take i.toNat)
 have hO3 : (z.take i.toNat).length ≤ z.length := by rw [List.length_take]; omega
 have := lL (l := z) (by assumption) i.toNat
 have : (az ((ay z i.toNat).1)).length = ((ay z i.toNat).1).length := List.length_map ..
 have : (az nm).length = nm.length := List.length_map ..
 refine stGt_1 (h := El) (1, i + 1, (O ++ [(ay z i.toNat).2])) ?_ (pT ⟨by omega, by omega, i2, i3, i4, by rw [getS_y (by omega) (by omega) (by assumption), ← i5], by omega, fun _ => by simp, by omega⟩) (by show z.length - (i + 1).toNat < z.length - i.toNat; omega) (aB (v := St' nm) (aB (v := .int .i64 ((z.length : Int))) (bc (b := ((i + 1))) rfl rfl (by omega) (aB (v := aN aO z) (aB (v := af (O ++ [(ay z i.toNat).2])) (aI)))))) runGt_p3
 unfold El
 exact hc bU <|hc (eP (j := i.toNat) (d := ([], [])) cL (by decide) (aA rfl) (aA rfl) (aG rfl) (by omega) (by omega) rfl) <|hc (eP (j := i.toNat) (d := ([], [])) cL (by decide) (aA rfl) (aA rfl) (aG rfl) (by omega) (by omega) rfl) <|hc (fo (s := (ay z i.toNat).1) (aA rfl) (aG rfl)) <|hc (fo (s := nm) (aA rfl) (aG rfl)) <|hc (bu (aA rfl) (aA rfl) (by first | exact decide_eq_true rfl | exact decide_eq_true ‹_› | exact decide_eq_false ‹_›)) <|hc (kRa (aA rfl) (aA rfl) (aG rfl)) <|hc (kRf (aA rfl) (by first | omega | (simp <;> omega)) (by first | omega | (simp <;> omega))) <|hc au <|hnil
theorem aS6 (hI : iR z nm (1, i, O)) (h0 : i < (z.length : Int)) (h1 : ¬ ((az ((ay z i.toNat).1)) = (az nm))) : ke z nm E' x' e' h' (1, i, O) X := by
 obtain ⟨i0, i1, i2, i3, i4, i5, i6, i7, it⟩ := o0 z nm 1 i O hI
 have hnm := mT i4.2 i.toNat
 have hO := congrArg List.length i5
 have hO2 := dO nm (z.take i.toNat)
 have hO3 : (z.take i.toNat).length ≤ z.length := by rw [List.length_take]; omega
 have := lL (l := z) (by assumption) i.toNat
 have : (az ((ay z i.toNat).1)).length = ((ay z i.toNat).1).length := List.length_map ..
 have : (az nm).length = nm.length := List.length_map ..
 refine stGt_1 (h := Ej) (1, i + 1, O) ?_ (pT ⟨by omega, by omega, i2, i3, i4, by rw [getS_n (by omega) (by omega) (by assumption)]; exact i5, by omega, i7, by omega⟩) (by show z.length - (i + 1).toNat < z.length - i.toNat; omega) (aB (v := St' nm) (aB (v := .int .i64 ((z.length : Int))) (bc (b := ((i + 1))) rfl rfl (by omega) (aB (v := aN aO z) (aB (v := af O) (aI)))))) runGt_p5
 unfold Ej
 exact hc bU <|hc (eP (j := i.toNat) (d := ([], [])) cL (by decide) (aA rfl) (aA rfl) (aG rfl) (by omega) (by omega) rfl) <|hc (eP (j := i.toNat) (d := ([], [])) cL (by decide) (aA rfl) (aA rfl) (aG rfl) (by omega) (by omega) rfl) <|hc (fo (s := (ay z i.toNat).1) (aA rfl) (aG rfl)) <|hc (fo (s := nm) (aA rfl) (aG rfl)) <|hc (bu (aA rfl) (aA rfl) (by first | exact decide_eq_true rfl | exact decide_eq_true ‹_› | exact decide_eq_false ‹_›)) <|hc au <|hnil
end
def aV2 (z : List (LB × LB)) (nm : LB) : List Value := []
def roEGt_0 (z : List (LB × LB)) (nm : LB) : List Value := [aN aO z]
noncomputable def EGt_0 (z : List (LB × LB)) (nm : LB) : Cx := cx (bG (aV2 z nm) (rX (roEGt_0 z nm) (fun _ => .bool true))) (bJ (aV (l := aV2 z nm) rfl)) 1 aH aQ
theorem roundsGt_0 (z : List (LB × LB)) (nm : LB) (x0 : ax nm z = []) (st : Nat × Int × List LB) (X : Nat → Value) (hI : iR z nm st) : ke z nm (EGt_0 z nm) (.exit 0) [(5, .aL)] [(41, .r 2000000 50 2 false)] st X := by
 obtain ⟨tag, i, O⟩ := st
 have hI0 := hI
 obtain ⟨i0, i1, i2, i3, i4, i5, i6, i7, it⟩ := o0 z nm tag i O hI
 rcases (show tag = 0 ∨ tag = 1 from by omega) with rfl | rfl
 ·by_cases h0 : i < (z.length : Int)
  ·by_cases h1 : (az ((ay z i.toNat).1)) = (az nm)
   ·exact aS9 hI0 h0 h1
   ·exact aS8 hI0 h0 h1
  ·have iM := z8 (nm := nm) (z := z) (i := i) (by omega) (by omega)
   refine lvGt_0 (h := En) rfl ?_ (aB (v := aN aO z) (aI)) runGt_p1
   unfold En
   exact hc dV <|hnil
 ·by_cases h0 : i < (z.length : Int)
  ·by_cases h1 : (az ((ay z i.toNat).1)) = (az nm)
   ·exact aS7 hI0 h0 h1
   ·exact aS6 hI0 h0 h1
  ·exfalso; have iM := z8 (nm := nm) (z := z) (i := i) (by omega) (by omega); have hL := i7 (by omega); rw [i5, iM, x0] at hL; simp at hL
theorem lfOkGt_0 (z : List (LB × LB)) (nm : LB) (x0 : ax nm z = []) : bI (cx nu one 1 aH aQ) (EGt_0 z nm) uP kI 25 (.exit 0) 4 64 65 104 oS tP [(5, .aL)] [(41, .r 2000000 50 2 false)] (iR z nm) (DGt z nm) :=
 dW (n7 z nm) (fun _ _ => rfl) (fun _ _ => rfl) (fun _ _ => rfl) (fun st X t ht => dT.trans (dS ((by decide : ∀ t, t ∈ kI → t < 1000000) t ht))) rfl rfl rfl ebGt rfl rfl (roundsGt_0 z nm x0)
def aV1 (z : List (LB × LB)) (nm : LB) : List Value := []
def roEGt_1 (z : List (LB × LB)) (nm : LB) : List Value := [aN aO z, af (ax nm z)]
noncomputable def EGt_1 (z : List (LB × LB)) (nm : LB) : Cx := cx (bG (aV1 z nm) (rX (roEGt_1 z nm) (fun _ => .bool true))) (bJ (aV (l := aV1 z nm) rfl)) 1 aH aQ
theorem roundsGt_1 (z : List (LB × LB)) (nm : LB) (x0 : 1 ≤ (ax nm z).length) (st : Nat × Int × List LB) (X : Nat → Value) (hI : iR z nm st) : ke z nm (EGt_1 z nm) (.exit 0) [(5, .sr 64)] [(41, .r 2000000 50 2 false), (64, .r 2000001 9 1 false)] st X := by
 obtain ⟨tag, i, O⟩ := st
 have hI0 := hI
 obtain ⟨i0, i1, i2, i3, i4, i5, i6, i7, it⟩ := o0 z nm tag i O hI
 rcases (show tag = 0 ∨ tag = 1 from by omega) with rfl | rfl
 ·by_cases h0 : i < (z.length : Int)
  ·by_cases h1 : (az ((ay z i.toNat).1)) = (az nm)
   ·exact aS9 hI0 h0 h1
   ·exact aS8 hI0 h0 h1
  ·exfalso; have iM := z8 (nm := nm) (z := z) (i := i) (by omega) (by omega); have hO := i6 (by omega); rw [hO, iM] at i5; rw [← i5] at x0; simp at x0
 ·by_cases h0 : i < (z.length : Int)
  ·by_cases h1 : (az ((ay z i.toNat).1)) = (az nm)
   ·exact aS7 hI0 h0 h1
   ·exact aS6 hI0 h0 h1
  ·have iM := z8 (nm := nm) (z := z) (i := i) (by omega) (by omega)
   refine lvGt_1 (h := Ek) rfl ?_ (aB (v := aN aO z) (ah (v := af O) (u := af (ax nm z)) rfl rfl (congrArg (af) (i5.trans iM)) (aI))) runGt_p4
   unfold Ek
   exact hc dV <|hnil
theorem lfOkGt_1 (z : List (LB × LB)) (nm : LB) (x0 : 1 ≤ (ax nm z).length) : bI (cx nu one 1 aH aQ) (EGt_1 z nm) uP kI 25 (.exit 0) 4 64 65 104 oS tP [(5, .sr 64)] [(41, .r 2000000 50 2 false), (64, .r 2000001 9 1 false)] (iR z nm) (DGt z nm) :=
 dW (n7 z nm) (fun _ _ => rfl) (fun _ _ => rfl) (fun _ _ => rfl) (fun st X t ht => dT.trans (dS ((by decide : ∀ t, t ∈ kI → t < 1000000) t ht))) rfl rfl rfl ebGt rfl rfl (roundsGt_1 z nm x0)
noncomputable def jq : FI := (cD.fn.get 54).getD default
theorem m7 : cD.fn.get 54 = some jq := by kernel_rfl
theorem lu : jq.body = some (Tryd.f54.body.getD .skip) := by kernel_rfl
theorem fiB54 : jq.body.isSome = true := by rw [lu]; rfl
theorem j0 : (di (Tryd.f54.body.getD .skip)).all (fun b => !(lT (Go.AX.keyOf b) 8888888)) = true := by kernel_rfl
def Az : List AV := [.sr 41, .x 0]
def qF : LE := [(41, .r 2000000 50 2 false)]
def nuGetC (z : List (LB × LB)) (nm : LB) : List Value := [St' nm, .int .i64 ((z.length : Int)), .int .i64 ((z.length : Int))]
def roGetC (z : List (LB × LB)) (nm : LB) : List Value := [aN aO z, af ([] : List LB), af (ax nm z), af ([] : List LB)]
noncomputable def qq (z : List (LB × LB)) (nm : LB) : Cx := cx (bG (nuGetC z nm) (rX (roGetC z nm) (fun _ => .bool true))) (bJ (aV (l := nuGetC z nm) rfl)) 1 aH aQ
def Er : LK := [(.rl (.x 2000000) 2, .x 1)]
def lh14 : LH := ⟨4, 64, 104, [(41, .r 2000000 50 2 false)], [(41, .r 2000000 50 2 false), (64, .r 2000002 9 1 false)]⟩
def lf14 : LF := ⟨3, 25, [(1, .x 0), (5, .aL), (8, .sr 41), (10, I6 0), (9, .x 1)], [], (.exit 0), [(5, .sr 64)], some lh14⟩
noncomputable def aD7 : Tab := bL ((aT Er)) 54 jq [lf14]
theorem runGetC_c0 (e : Unit) : jY (call aD7 3000 54 Az ⟨ae qF ((fun _ : Unit => T.leaf) e), 64, 0, 0⟩) (.sr 64) [(2000000, .x 2000000), (2000001, .x 2000002)] [(64, 64)] 64 114 [(41, .r 2000000 50 2 false), (64, .r 2000001 9 1 false)] = true := by kernel_rfl
def Ep : LK := [(.rl (.x 2000000) 2, .x 2)]
def lh15 : LH := ⟨4, 64, 104, [(41, .r 2000000 50 2 false)], [(41, .r 2000000 50 2 false)]⟩
def lf15 : LF := ⟨3, 25, [(1, .x 0), (5, .aL), (8, .sr 41), (10, I6 0), (9, .x 2)], [], (.exit 0), [(5, .aL)], some lh15⟩
noncomputable def aD6 : Tab := bL ((aT Ep)) 54 jq [lf15]
theorem runGetC_c1 (e : Unit) : jY (call aD6 3000 54 Az ⟨ae qF ((fun _ : Unit => T.leaf) e), 64, 0, 0⟩) (.aL) [(2000000, .x 2000000)] [] 64 114 [(41, .r 2000000 50 2 false)] = true := by kernel_rfl
def aE7 (z : List (LB × LB)) (nm : LB) : List Value := []
def roEGetC_0 (z : List (LB × LB)) (nm : LB) : List Value := [aN aO z]
noncomputable def bA5 (z : List (LB × LB)) (nm : LB) : Cx := cx (bG (aE7 z nm) (rX (roEGetC_0 z nm) (fun _ => .bool true))) (bJ (aV (l := aE7 z nm) rfl)) 1 aH aQ
theorem qZ {l : LF} {h : LH} {q : Nat × AV} (z : List (LB × LB)) (nm : LB) (p0 : z.length ≤ 40) (p1 : ∀ q, q ∈ z → jW q) (p2 : ∀ q, q ∈ z → q.1.length ≤ 140737488351232) (p3 : nm.length ≤ 100) (p4 : 1 ≤ z.length) (x0 : ax nm z = []) (hl : l.hp = some h) (hq : l.post = [q]) (hs : oV l h 4 64 114 = true) {ao : LA} {ai : List (Nat × Nat)} (dt : bE (cx nu one 1 aH aQ) (qq z nm) ao) (h0 : (lY ao (dK 64 64 ai) Az (l.pre.map (·.2)) && dN 64 64 ao ai (ae h.pre .leaf) qF && dM (numsOf 64 ai qF)) = true) {ak : LA} (dr : bE (bA5 z nm) (cx nu one 1 aH aQ) ak) (hx : (inA ak (dK 64 114 []) 8 q.2 (.aL) && dN 64 114 ak [] (ae [(41, .r 2000000 50 2 false)] .leaf) h.post && dM (numsOf 64 [] h.post)) = true) : kA (cx nu one 1 aH aQ) 54 l := by
 by_cases d0 : ax nm z = []
 ·have := dO nm z
  have ho : ∀ a' r', (a', r') ∈ Ep → aM (qq z nm) a' r' := by
   unfold Ep
   exact hc (fQ cL (aA rfl) (aG rfl) (by first | omega | (simp <;> omega))) <|hnil
  exact l4 (D := qq z nm) (E := bA5 z nm) (Gf := (fun _ : Unit => T.leaf)) (f := 3000) (tb := aD6) rfl rfl rfl rfl rfl rfl hl hq hs rfl dt h0 dr hx (aq.bz ((ab _ _).hyps ho) (by omega) m7 lu (bK (bx rfl ⟨0, keyGt, bI.use (l := lf15) (h := lh15) (lfOkGt_0 z nm (by first | assumption | (exact List.length_pos_iff.2 (by assumption)))) (0, (0 : Int), ([] : List LB)) (pT ⟨by omega, by omega, by omega, by assumption, ⟨by omega, by assumption⟩, rfl, fun _ => rfl, by omega, by omega⟩) rfl (by kernel_rfl) (ao := [(0, .x 0), (1, .x 2), (2, I6 0), (2000000, .x 2000000)]) (ai := []) (fun X => aB (v := St' nm) (aB (v := .int .i64 ((z.length : Int))) (ad bS (aB (v := aN aO z) (aI))))) (by kernel_rfl) (ak := [(2000000, .x 2000000)]) (aB (v := aN aO z) (aI)) (by kernel_rfl)⟩) aj)) rfl (ez (by omega)) fiB54 (.inl ⟨fun _ => rfl, ⟨()⟩⟩) (aB (v := aN aO z) (aI)) runGetC_c1
 ·exfalso; exact absurd x0 (by assumption)
def aE6 (z : List (LB × LB)) (nm : LB) : List Value := []
def roEGetC_1 (z : List (LB × LB)) (nm : LB) : List Value := [aN aO z, af (ax nm z)]
noncomputable def bA4 (z : List (LB × LB)) (nm : LB) : Cx := cx (bG (aE6 z nm) (rX (roEGetC_1 z nm) (fun _ => .bool true))) (bJ (aV (l := aE6 z nm) rfl)) 1 aH aQ
theorem uL {l : LF} {h : LH} {q : Nat × AV} (z : List (LB × LB)) (nm : LB) (p0 : z.length ≤ 40) (p1 : ∀ q, q ∈ z → jW q) (p2 : ∀ q, q ∈ z → q.1.length ≤ 140737488351232) (p3 : nm.length ≤ 100) (p4 : 1 ≤ z.length) (x0 : ¬ ax nm z = []) (hl : l.hp = some h) (hq : l.post = [q]) (hs : oV l h 4 64 114 = true) {ao : LA} {ai : List (Nat × Nat)} (dt : bE (cx nu one 1 aH aQ) (qq z nm) ao) (h0 : (lY ao (dK 64 64 ai) Az (l.pre.map (·.2)) && dN 64 64 ao ai (ae h.pre .leaf) qF && dM (numsOf 64 ai qF)) = true) {ak : LA} (dr : bE (bA4 z nm) (cx nu one 1 aH aQ) ak) (hx : (inA ak (dK 64 114 []) 8 q.2 (.sr 64) && dN 64 114 ak [] (ae [(41, .r 2000000 50 2 false), (64, .r 2000001 9 1 false)] .leaf) h.post && dM (numsOf 64 [] h.post)) = true) : kA (cx nu one 1 aH aQ) 54 l := by
 by_cases d0 : ax nm z = []
 ·exfalso; exact x0 (by assumption)
 ·have := dO nm z
  have ho : ∀ a' r', (a', r') ∈ Er → aM (qq z nm) a' r' := by
   unfold Er
   exact hc (fQ cL (aA rfl) (aG rfl) (by first | omega | (simp <;> omega))) <|hnil
  exact l4 (D := qq z nm) (E := bA4 z nm) (Gf := (fun _ : Unit => T.leaf)) (f := 3000) (tb := aD7) rfl rfl rfl rfl rfl rfl hl hq hs rfl dt h0 dr hx (aq.bz ((ab _ _).hyps ho) (by omega) m7 lu (bK (bx rfl ⟨0, keyGt, bI.use (l := lf14) (h := lh14) (lfOkGt_1 z nm (by first | assumption | (exact List.length_pos_iff.2 (by assumption)))) (0, (0 : Int), ([] : List LB)) (pT ⟨by omega, by omega, by omega, by assumption, ⟨by omega, by assumption⟩, rfl, fun _ => rfl, by omega, by omega⟩) rfl (by kernel_rfl) (ao := [(0, .x 0), (1, .x 1), (2, I6 0), (2000000, .x 2000000)]) (ai := []) (fun X => aB (v := St' nm) (aB (v := .int .i64 ((z.length : Int))) (ad bS (aB (v := aN aO z) (aI))))) (by kernel_rfl) (ak := [(2000000, .x 2000000), (2000002, .x 2000001)]) (aB (v := aN aO z) (aB (v := af (ax nm z)) (aI))) (by kernel_rfl)⟩) aj)) rfl (ez (by omega)) fiB54 (.inl ⟨fun _ => rfl, ⟨()⟩⟩) (aB (v := aN aO z) (aB (v := af (ax nm z)) (aI))) runGetC_c0
def toS (F : List (LB × LB)) : List LB := ax aw F
def vQ (F : List (LB × LB)) : LB := List.getD (toS F) 0 []
def dA (F : List (LB × LB)) : Nat := if 1 < (toS F).length then 3 else if (toS F).length = 1 then dy (vQ F) else if ¬ ax cV F = [] then 0 else if ¬ ax db F = [] then 0 else 4
def ec (F : List (LB × LB)) : Int := if (toS F).length = 1 then gW (vQ F) else if ¬ ax cV F = [] then 302 else 200
def eZ (F : List (LB × LB)) : LB := if (toS F).length = 1 then jU (vQ F) else if ¬ ax cV F = [] then dp 302 else dp 200
def eM (F : List (LB × LB)) : LB := if dA F = 3 then uu else if dA F = 4 then fJ else stM (dA F)
theorem stK_le (v : LB) : dy v ≤ 2 := by
 unfold dy; split
 ·omega
 ·split <;> omega
theorem gs_le {nm : LB} {z : List (LB × LB)} {N : Nat} (h : ∀ q, q ∈ z → q.2.length ≤ N) (j : Nat) : (List.getD (ax nm z) j []).length ≤ N := by
 rw [List.getD_eq_getElem?_getD]
 cases hj : (ax nm z)[j]? with
 | none => exact Nat.zero_le _
 | some v =>
  have hm := List.mem_of_getElem? hj
  unfold ax at hm
  obtain ⟨q, hq, rfl⟩ := List.mem_map.1 hm
  exact h q (List.mem_filter.1 hq).1
theorem so3_ {z : List (LB × LB)} (h : 1 < (ax aw z).length) : ¬ dA z = 0 ∧ uu = eM z := by
 have e : dA z = 3 := by unfold dA toS; rw [if_pos h]
 unfold eM; rw [e]; exact ⟨by decide, rfl⟩
theorem vR {z : List (LB × LB)} (h : (ax aw z).length = 1) : dA z = dy (List.getD (ax aw z) 0 []) ∧ ec z = gW (List.getD (ax aw z) 0 []) ∧ eZ z = jU (List.getD (ax aw z) 0 []) := by
 unfold dA ec eZ toS vQ toS; rw [if_neg (by omega), if_pos h, if_pos h, if_pos h]; exact ⟨rfl, rfl, rfl⟩
theorem soA_ {z : List (LB × LB)} (h : (ax aw z).length = 1) (k : dy (List.getD (ax aw z) 0 []) = 0) : dA z = 0 ∧ gW (List.getD (ax aw z) 0 []) = ec z ∧ jU (List.getD (ax aw z) 0 []) = eZ z :=
 ⟨(vR h).1.trans k, (vR h).2.1.symm, (vR h).2.2.symm⟩
theorem soA1 {z : List (LB × LB)} (h : (ax aw z).length = 1) (k : ¬ dy (List.getD (ax aw z) 0 []) = 0) : ¬ dA z = 0 ∧ stM (dy (List.getD (ax aw z) 0 [])) = eM z := by
 have e := (vR h).1
 have l := stK_le (List.getD (ax aw z) 0 [])
 refine ⟨by rw [e]; exact k, ?_⟩
 unfold eM; rw [e, if_neg (by omega), if_neg (by omega)]
theorem nW {z : List (LB × LB)} (h : ax aw z = []) : dA z = (if ¬ ax cV z = [] then 0 else if ¬ ax db z = [] then 0 else 4) ∧ ec z = (if ¬ ax cV z = [] then 302 else 200) ∧ eZ z = (if ¬ ax cV z = [] then dp 302 else dp 200) := by
 unfold dA ec eZ toS; rw [h]; exact ⟨rfl, rfl, rfl⟩
theorem soB_ {z : List (LB × LB)} (h : ax aw z = []) (h2 : ¬ ax cV z = []) : dA z = 0 ∧ (302 : Int) = ec z ∧ [u8 70, u8 111, u8 117, u8 110, u8 100] = eZ z :=
 ⟨(nW h).1.trans (if_pos h2), ((nW h).2.1.trans (if_pos h2)).symm, (show _ = dp 302 from by decide +kernel).trans ((nW h).2.2.trans (if_pos h2)).symm⟩
theorem soC_ {z : List (LB × LB)} (h : ax aw z = []) (h2 : ax cV z = []) (h3 : ¬ ax db z = []) : dA z = 0 ∧ (200 : Int) = ec z ∧ [u8 79, u8 75] = eZ z :=
 ⟨(nW h).1.trans ((if_neg (fun q => q h2)).trans (if_pos h3)), ((nW h).2.1.trans (if_neg (fun q => q h2))).symm, (show _ = dp 200 from by decide +kernel).trans ((nW h).2.2.trans (if_neg (fun q => q h2))).symm⟩
theorem soD_ {z : List (LB × LB)} (h : ax aw z = []) (h2 : ax cV z = []) (h3 : ax db z = []) : ¬ dA z = 0 ∧ fJ = eM z := by
 have e : dA z = 4 := (nW h).1.trans ((if_neg (fun q => q h2)).trans (if_neg (fun q => q h3)))
 unfold eM; rw [e]; exact ⟨by decide, rfl⟩
theorem stDen0 {C : Cx} {v : LB} {i j : Nat} (h : dy v = 0) (h1 : C.nu i = .int .i64 (gW v)) (h2 : C.nu j = St' (jU v)) : Den C (.tu [.x i, .x j, .ni]) (de v) := fun ρ => by
 unfold de; rw [if_pos h]; simp only [Rel, aJ]; exact ⟨_, rfl, _, _, rfl, h1.symm, _, _, rfl, h2.symm, _, _, rfl, rfl, rfl⟩
theorem stDen1 {C : Cx} {v : LB} {j : Nat} (h : ¬ dy v = 0) (h2 : C.nu j = St' (stM (dy v))) : Den C (.tu [.i .i64 0, .s 0 0, .aZ 63 (.ag [.i .i64 10, .x j])]) (de v) := fun ρ => by
 unfold de; rw [if_neg h]; simp only [Rel, aJ]; exact ⟨_, rfl, _, _, rfl, rfl, _, _, rfl, ⟨rfl, by decide⟩, _, _, rfl, ⟨_, rfl, _, rfl, _, _, rfl, rfl, _, _, rfl, h2.symm, rfl⟩, rfl⟩
noncomputable def qP : FI := (cD.fn.get 37).getD default
theorem lx : cD.fn.get 37 = some qP := by kernel_rfl
theorem AJ : qP.body = some (Tryd.f37.body.getD .skip) := by kernel_rfl
theorem qN : qP.body.isSome = true := by rw [AJ]; rfl
theorem GK : (di (Tryd.f37.body.getD .skip)).all (fun b => !(lT (Go.AX.keyOf b) 8888888)) = true := by kernel_rfl
def nK : List AV := [.sr 41]
def kN : LE := [(41, .r 2000000 50 2 false)]
def nuSo (z : List (LB × LB)) : List Value := [St' ([] : LB), .int .i64 (((ax (aw) z).length : Int)), St' ([] : LB), .int .i64 (((ax (aw) z).length : Int)), St' (List.getD (ax (aw) z) 0 []), .int .i64 ((gW (List.getD (ax (aw) z) 0 []))), St' (jU (List.getD (ax (aw) z) 0 [])), St' ([] : LB), .int .i64 (((ax (aw) z).length : Int)), St' (List.getD (ax (aw) z) 0 []), St' (stM (dy (List.getD (ax (aw) z) 0 []))), St' ([] : LB), .int .i64 (((ax (cV) z).length : Int)), St' ([] : LB), .int .i64 (((ax (db) z).length : Int)), St' ([] : LB)]
def roSo (z : List (LB × LB)) : List Value := [aN aO z, af ([] : List LB), af (ax (aw) z), af ([] : List LB), af (ax (aw) z), af ([] : List LB), af (ax (aw) z), af ([] : List LB), af (ax (cV) z), af ([] : List LB), af (ax (db) z), af ([] : List LB)]
noncomputable def hC (z : List (LB × LB)) : Cx := cx (bG (nuSo z) (rX (roSo z) (fun _ => .bool true))) (bJ (aV (l := nuSo z) rfl)) 1 aH aQ
def De : LK := [(.rl (.x 2000002) 1, .x 1), (.bin .gtr (.x 1) (I6 1), .b true)]
def yj : LH := ⟨4, 64, 114, [(41, .r 2000000 50 2 false)], [(41, .r 2000000 50 2 false), (64, .r 2000002 9 1 false)]⟩
def lf16 : LF := ⟨8888888, 0, [(0, .sr 41), (1, .s 6 dE)], [], .normal, [(0, .sr 64)], some yj⟩
def lh17 : LH := ⟨4, 124, 174, yj.pre, [(41, .r 2000000 50 2 false), (124, .r 2000002 9 1 false)]⟩
def lf17 : LF := ⟨8888888, 0, lf16.pre, [], .normal, [(0, .sr 124)], some lh17⟩
noncomputable def aO0 : Tab := bL ((aT De)) 54 jq [lf17]
theorem runSo_c0 (e : Unit) : jY (call aO0 4000 37 nK ⟨ae kN ((fun _ : Unit => T.leaf) e), 124, 0, 0⟩) (.tu [I6 0, .s 0 0, .aZ 63 (.ag [I6 10, .x 0])]) [(0, .s 20 zn16), (2000000, .x 2000000)] [] 124 424 [(41, .r 2000000 50 2 false)] = true := by kernel_rfl
def Dd : LK := [(.rl (.x 2000004) 1, .x 3), (.bin .gtr (.x 3) (I6 1), .b false), (.bin .eql (.x 3) (I6 1), .b true), (.el (.x 2000004) (I6 0) 1 0, .x 4), (.call 11 [.x 4], .tu [.x 5, .x 6, .ni])]
def yf : LH := ⟨4, 64, 114, [(41, .r 2000000 50 2 false)], [(41, .r 2000000 50 2 false), (64, .r 2000004 9 1 false)]⟩
def lf18 : LF := ⟨8888888, 0, [(0, .sr 41), (1, .s 6 dE)], [], .normal, [(0, .sr 64)], some yf⟩
def lh19 : LH := ⟨4, 124, 174, yf.pre, [(41, .r 2000000 50 2 false), (124, .r 2000004 9 1 false)]⟩
def lf19 : LF := ⟨8888888, 0, lf18.pre, [], .normal, [(0, .sr 124)], some lh19⟩
noncomputable def aN9 : Tab := bL ((aT Dd)) 54 jq [lf19]
theorem runSo_c1 (e : Unit) : jY (call aN9 4000 37 nK ⟨ae kN ((fun _ : Unit => T.leaf) e), 124, 0, 0⟩) (.tu [.x 0, .x 1, .ni]) [(0, .x 5), (1, .x 6), (2000000, .x 2000000)] [] 124 424 [(41, .r 2000000 50 2 false)] = true := by kernel_rfl
def Dc : LK := [(.rl (.x 2000006) 1, .x 8), (.bin .gtr (.x 8) (I6 1), .b false), (.bin .eql (.x 8) (I6 1), .b true), (.el (.x 2000006) (I6 0) 1 0, .x 9), (.call 11 [.x 9], .tu [I6 0, .s 0 0, .aZ 63 (.ag [I6 10, .x 10])])]
def yd : LH := ⟨4, 64, 114, [(41, .r 2000000 50 2 false)], [(41, .r 2000000 50 2 false), (64, .r 2000006 9 1 false)]⟩
def lf20 : LF := ⟨8888888, 0, [(0, .sr 41), (1, .s 6 dE)], [], .normal, [(0, .sr 64)], some yd⟩
def lh21 : LH := ⟨4, 124, 174, yd.pre, [(41, .r 2000000 50 2 false), (124, .r 2000006 9 1 false)]⟩
def lf21 : LF := ⟨8888888, 0, lf20.pre, [], .normal, [(0, .sr 124)], some lh21⟩
noncomputable def aN8 : Tab := bL ((aT Dc)) 54 jq [lf21]
theorem runSo_c2 (e : Unit) : jY (call aN8 4000 37 nK ⟨ae kN ((fun _ : Unit => T.leaf) e), 124, 0, 0⟩) (.tu [I6 0, .s 0 0, .aZ 63 (.ag [I6 10, .x 0])]) [(0, .x 10), (2000000, .x 2000000)] [] 124 424 [(41, .r 2000000 50 2 false)] = true := by kernel_rfl
def Db : LK := [(.rl (.x 2000008) 1, .x 12), (.bin .gtr (.x 12) (I6 0), .b true)]
def eI : LH := ⟨4, 64, 114, [(41, .r 2000000 50 2 false)], [(41, .r 2000000 50 2 false)]⟩
def lf22 : LF := ⟨8888888, 0, [(0, .sr 41), (1, .s 6 dE)], [], .normal, [(0, .aL)], some eI⟩
def lh23 : LH := ⟨4, 124, 174, eI.pre, [(41, .r 2000000 50 2 false)]⟩
def lf23 : LF := ⟨8888888, 0, lf22.pre, [], .normal, [(0, .aL)], some lh23⟩
def yc : LH := ⟨4, 64, 114, [(41, .r 2000000 50 2 false)], [(41, .r 2000000 50 2 false), (64, .r 2000008 9 1 false)]⟩
def lf24 : LF := ⟨8888888, 0, [(0, .sr 41), (1, .s 8 jP)], [], .normal, [(0, .sr 64)], some yc⟩
def lh25 : LH := ⟨4, 174, 224, yc.pre, [(41, .r 2000000 50 2 false), (174, .r 2000008 9 1 false)]⟩
def lf25 : LF := ⟨8888888, 0, lf24.pre, [], .normal, [(0, .sr 174)], some lh25⟩
noncomputable def aN7 : Tab := bL ((aT Db)) 54 jq [lf23, lf25]
theorem runSo_c3 (e : Unit) : jY (call aN7 4000 37 nK ⟨ae kN ((fun _ : Unit => T.leaf) e), 124, 0, 0⟩) (.tu [.x 0, .x 1, .ni]) [(0, I6 302), (1, .s 5 431349919558), (2000000, .x 2000000)] [] 124 424 [(41, .r 2000000 50 2 false)] = true := by kernel_rfl
def Da : LK := [(.rl (.x 2000010) 1, .x 14), (.bin .gtr (.x 14) (I6 0), .b true)]
def lh27 : LH := ⟨4, 124, 174, eI.pre, [(41, .r 2000000 50 2 false)]⟩
def lf27 : LF := ⟨8888888, 0, lf22.pre, [], .normal, [(0, .aL)], some lh27⟩
def lf28 : LF := ⟨8888888, 0, [(0, .sr 41), (1, .s 8 jP)], [], .normal, [(0, .aL)], some eI⟩
def lh29 : LH := ⟨4, 174, 224, eI.pre, [(41, .r 2000000 50 2 false)]⟩
def lf29 : LF := ⟨8888888, 0, lf28.pre, [], .normal, [(0, .aL)], some lh29⟩
def yb : LH := ⟨4, 64, 114, [(41, .r 2000000 50 2 false)], [(41, .r 2000000 50 2 false), (64, .r 2000010 9 1 false)]⟩
def lf30 : LF := ⟨8888888, 0, [(0, .sr 41), (1, .s 12 mE)], [], .normal, [(0, .sr 64)], some yb⟩
def lh31 : LH := ⟨4, 224, 274, yb.pre, [(41, .r 2000000 50 2 false), (224, .r 2000010 9 1 false)]⟩
def lf31 : LF := ⟨8888888, 0, lf30.pre, [], .normal, [(0, .sr 224)], some lh31⟩
noncomputable def aN6 : Tab := bL ((aT Da)) 54 jq [lf27, lf29, lf31]
theorem runSo_c4 (e : Unit) : jY (call aN6 4000 37 nK ⟨ae kN ((fun _ : Unit => T.leaf) e), 124, 0, 0⟩) (.tu [.x 0, .x 1, .ni]) [(0, I6 200), (1, .s 2 19279), (2000000, .x 2000000)] [] 124 424 [(41, .r 2000000 50 2 false)] = true := by kernel_rfl
def DZ : LK := []
def lh33 : LH := ⟨4, 124, 174, eI.pre, [(41, .r 2000000 50 2 false)]⟩
def lf33 : LF := ⟨8888888, 0, lf22.pre, [], .normal, [(0, .aL)], some lh33⟩
def lh35 : LH := ⟨4, 174, 224, eI.pre, [(41, .r 2000000 50 2 false)]⟩
def lf35 : LF := ⟨8888888, 0, lf28.pre, [], .normal, [(0, .aL)], some lh35⟩
def lf36 : LF := ⟨8888888, 0, [(0, .sr 41), (1, .s 12 mE)], [], .normal, [(0, .aL)], some eI⟩
def lh37 : LH := ⟨4, 224, 274, eI.pre, [(41, .r 2000000 50 2 false)]⟩
def lf37 : LF := ⟨8888888, 0, lf36.pre, [], .normal, [(0, .aL)], some lh37⟩
noncomputable def aN5 : Tab := bL ((aT DZ)) 54 jq [lf33, lf35, lf37]
theorem runSo_c5 (e : Unit) : jY (call aN5 4000 37 nK ⟨ae kN ((fun _ : Unit => T.leaf) e), 124, 0, 0⟩) (.tu [I6 0, .s 0 0, .aZ 63 (.ag [I6 10, .x 0])]) [(0, .s 25 fK), (2000000, .x 2000000)] [] 124 424 [(41, .r 2000000 50 2 false)] = true := by kernel_rfl
def aT8 (z : List (LB × LB)) : List Value := [.int .i64 ((ec z)), St' (eZ z)]
def roESo_0 (z : List (LB × LB)) : List Value := [aN aO z]
noncomputable def BF (z : List (LB × LB)) : Cx := cx (bG (aT8 z) (rX (roESo_0 z) (fun _ => .bool true))) (bJ (aV (l := aT8 z) rfl)) 1 aH aQ
theorem cfSo_0 {l : LF} {h : LH} {q : Nat × AV} (z : List (LB × LB)) (p0 : z.length ≤ 40) (p1 : ∀ q, q ∈ z → jW q) (p2 : ∀ q, q ∈ z → q.1.length ≤ 140737488351232) (p3 : 1 ≤ z.length) (p4 : ∀ q, q ∈ z → q.2.length ≤ 512) (x0 : dA z = 0) (hl : l.hp = some h) (hq : l.post = [q]) (hs : oV l h 4 124 424 = true) {ao : LA} {ai : List (Nat × Nat)} (dt : bE (cx nu one 1 aH aQ) (hC z) ao) (h0 : (lY ao (dK 124 124 ai) nK (l.pre.map (·.2)) && dN 124 124 ao ai (ae h.pre .leaf) kN && dM (numsOf 124 ai kN)) = true) {ak : LA} (dr : bE (BF z) (cx nu one 1 aH aQ) ak) (hx : (inA ak (dK 124 424 []) 8 q.2 (.tu [.x 0, .x 1, .ni]) && dN 124 424 ak [] (ae [(41, .r 2000000 50 2 false)] .leaf) h.post && dM (numsOf 124 [] h.post)) = true) : kA (cx nu one 1 aH aQ) 37 l := by
 by_cases d0 : ax (aw) z = []
 ·by_cases d1 : ax (cV) z = []
  ·by_cases d2 : ax (db) z = []
   ·exfalso; have := dO (aw) z; have := congrArg List.length (by assumption : ax (aw) z = []); have := dO (cV) z; have := congrArg List.length (by assumption : ax (cV) z = []); have := dO (db) z; have := congrArg List.length (by assumption : ax (db) z = []); have hso := soD_ (z := z) (by assumption) (by assumption) (by assumption); exact absurd x0 hso.1
   ·have := dO (aw) z
    have := congrArg List.length (by assumption : ax (aw) z = [])
    have := dO (cV) z
    have := congrArg List.length (by assumption : ax (cV) z = [])
    have := dO (db) z
    have := List.length_pos_iff.2 (by assumption : ¬ ax (db) z = [])
    have hso := soC_ (z := z) (by assumption) (by assumption) (by assumption)
    have ho : ∀ a' r', (a', r') ∈ Da → aM (hC z) a' r' := by
     unfold Da
     exact hc (kRl (aA rfl) (aG rfl) (by first | omega | (simp <;> omega))) <|hc cZ <|hnil
    exact l4 (D := hC z) (E := BF z) (Gf := (fun _ : Unit => T.leaf)) (f := 4000) (tb := aN6) rfl rfl rfl rfl rfl rfl hl hq hs rfl dt h0 dr hx (aq.lp2 ((ab _ _).hyps ho) (by omega) m7 lu (bK (.inr ⟨⟨rfl, rfl⟩, j0, jz (l := lf22) (l' := lf27) (h := eI) (h' := lh27) (q := (0, .aL)) (q' := (0, .aL)) (ids := [2000000]) (sg := [] ++ ig 64 60) (qZ (l := lf22) (h := eI) (q := (0, .aL)) z (aw) (by omega) (by assumption) (by assumption) (by decide) (by omega) (by assumption) rfl rfl (by kernel_rfl) (ao := [(0, .s 6 dE), (2000000, .x 2000000)]) (ai := []) (ad (show Is _ (.s 6 dE) (St' (aw)) from bg (v := St' (aw)) (ar (l := aw) 6 dE rfl) (by first | rfl | (simp; done))) (aB (v := aN aO z) (aI))) (by kernel_rfl) (ak := [(2000000, .x 2000000)]) (aB (v := aN aO z) (aI)) (by kernel_rfl)) rfl rfl rfl rfl rfl rfl rfl (by kernel_rfl) (by kernel_rfl)⟩) (bK (.inr ⟨⟨rfl, rfl⟩, j0, jz (l := lf28) (l' := lf29) (h := eI) (h' := lh29) (q := (0, .aL)) (q' := (0, .aL)) (ids := [2000000]) (sg := [] ++ ig 64 110) (qZ (l := lf28) (h := eI) (q := (0, .aL)) z (cV) (by omega) (by assumption) (by assumption) (by decide) (by omega) (by assumption) rfl rfl (by kernel_rfl) (ao := [(0, .s 8 jP), (2000000, .x 2000000)]) (ai := []) (ad (show Is _ (.s 8 jP) (St' (cV)) from bg (v := St' (cV)) (ar (l := cV) 8 jP rfl) (by first | rfl | (simp; done))) (aB (v := aN aO z) (aI))) (by kernel_rfl) (ak := [(2000000, .x 2000000)]) (aB (v := aN aO z) (aI)) (by kernel_rfl)) rfl rfl rfl rfl rfl rfl rfl (by kernel_rfl) (by kernel_rfl)⟩) (bK (.inr ⟨⟨rfl, rfl⟩, j0, jz (l := lf30) (l' := lf31) (h := yb) (h' := lh31) (q := (0, .sr 64)) (q' := (0, .sr 224)) (ids := [2000000, 2000010]) (sg := [(224, 64)] ++ ig 64 160) (uL (l := lf30) (h := yb) (q := (0, .sr 64)) z (db) (by omega) (by assumption) (by assumption) (by decide) (by omega) (by assumption) rfl rfl (by kernel_rfl) (ao := [(0, .s 12 mE), (2000000, .x 2000000)]) (ai := []) (ad (show Is _ (.s 12 mE) (St' (db)) from bg (v := St' (db)) (ar (l := db) 12 mE rfl) (by first | rfl | (simp; done))) (aB (v := aN aO z) (aI))) (by kernel_rfl) (ak := [(2000000, .x 2000000), (2000010, .x 2000001)]) (aB (v := aN aO z) (aB (v := af (ax (db) z)) (aI))) (by kernel_rfl)) rfl rfl rfl rfl rfl rfl rfl (by kernel_rfl) (by kernel_rfl)⟩) aj)))) rfl (dv (by omega) (by omega) lx) qN (.inl ⟨fun _ => rfl, ⟨()⟩⟩) (ad (show Is _ (I6 200) (.int .i64 ((ec z))) from bg (v := .int .i64 200) (ct _ _) (congrArg (Value.int .i64) hso.2.1)) (ad (show Is _ (.s 2 19279) (St' (eZ z)) from bg (v := St' ([u8 79, u8 75])) (ar (l := [u8 79, u8 75]) 2 19279 rfl) (congrArg (fun l => St' l) hso.2.2)) (aB (v := aN aO z) (aI)))) runSo_c4
  ·have := dO (aw) z
   have := congrArg List.length (by assumption : ax (aw) z = [])
   have := dO (cV) z
   have := List.length_pos_iff.2 (by assumption : ¬ ax (cV) z = [])
   have hso := soB_ (z := z) (by assumption) (by assumption)
   have ho : ∀ a' r', (a', r') ∈ Db → aM (hC z) a' r' := by
    unfold Db
    exact hc (kRl (aA rfl) (aG rfl) (by first | omega | (simp <;> omega))) <|hc cZ <|hnil
   exact l4 (D := hC z) (E := BF z) (Gf := (fun _ : Unit => T.leaf)) (f := 4000) (tb := aN7) rfl rfl rfl rfl rfl rfl hl hq hs rfl dt h0 dr hx (aq.lp2 ((ab _ _).hyps ho) (by omega) m7 lu (bK (.inr ⟨⟨rfl, rfl⟩, j0, jz (l := lf22) (l' := lf23) (h := eI) (h' := lh23) (q := (0, .aL)) (q' := (0, .aL)) (ids := [2000000]) (sg := [] ++ ig 64 60) (qZ (l := lf22) (h := eI) (q := (0, .aL)) z (aw) (by omega) (by assumption) (by assumption) (by decide) (by omega) (by assumption) rfl rfl (by kernel_rfl) (ao := [(0, .s 6 dE), (2000000, .x 2000000)]) (ai := []) (ad (show Is _ (.s 6 dE) (St' (aw)) from bg (v := St' (aw)) (ar (l := aw) 6 dE rfl) (by first | rfl | (simp; done))) (aB (v := aN aO z) (aI))) (by kernel_rfl) (ak := [(2000000, .x 2000000)]) (aB (v := aN aO z) (aI)) (by kernel_rfl)) rfl rfl rfl rfl rfl rfl rfl (by kernel_rfl) (by kernel_rfl)⟩) (bK (.inr ⟨⟨rfl, rfl⟩, j0, jz (l := lf24) (l' := lf25) (h := yc) (h' := lh25) (q := (0, .sr 64)) (q' := (0, .sr 174)) (ids := [2000000, 2000008]) (sg := [(174, 64)] ++ ig 64 110) (uL (l := lf24) (h := yc) (q := (0, .sr 64)) z (cV) (by omega) (by assumption) (by assumption) (by decide) (by omega) (by assumption) rfl rfl (by kernel_rfl) (ao := [(0, .s 8 jP), (2000000, .x 2000000)]) (ai := []) (ad (show Is _ (.s 8 jP) (St' (cV)) from bg (v := St' (cV)) (ar (l := cV) 8 jP rfl) (by first | rfl | (simp; done))) (aB (v := aN aO z) (aI))) (by kernel_rfl) (ak := [(2000000, .x 2000000), (2000008, .x 2000001)]) (aB (v := aN aO z) (aB (v := af (ax (cV) z)) (aI))) (by kernel_rfl)) rfl rfl rfl rfl rfl rfl rfl (by kernel_rfl) (by kernel_rfl)⟩) aj))) rfl (dv (by omega) (by omega) lx) qN (.inl ⟨fun _ => rfl, ⟨()⟩⟩) (ad (show Is _ (I6 302) (.int .i64 ((ec z))) from bg (v := .int .i64 302) (ct _ _) (congrArg (Value.int .i64) hso.2.1)) (ad (show Is _ (.s 5 431349919558) (St' (eZ z)) from bg (v := St' ([u8 70, u8 111, u8 117, u8 110, u8 100])) (ar (l := [u8 70, u8 111, u8 117, u8 110, u8 100]) 5 431349919558 rfl) (congrArg (fun l => St' l) hso.2.2)) (aB (v := aN aO z) (aI)))) runSo_c3
 ·by_cases d1 : 1 < ((ax (aw) z).length : Int)
  ·exfalso; have := dO (aw) z; have := List.length_pos_iff.2 (by assumption : ¬ ax (aw) z = []); have hso := so3_ (z := z) (by omega); exact absurd x0 hso.1
  ·by_cases d3 : dy (List.getD (ax (aw) z) 0 []) = 0
   ·have := dO (aw) z
    have := List.length_pos_iff.2 (by assumption : ¬ ax (aw) z = [])
    have := gs_le (nm := aw) p4 0
    have hso := soA_ (z := z) (by omega) (by assumption)
    have ho : ∀ a' r', (a', r') ∈ Dd → aM (hC z) a' r' := by
     unfold Dd
     exact hc (kRl (aA rfl) (aG rfl) (by first | omega | (simp <;> omega))) <|hc cN <|hc nA <|hc (kEl (j := 0) (aA rfl) (b7 (m := 0) rfl) (aG rfl) (by omega) (by first | omega | (simp <;> omega))) <|hc (aX0 (v := (List.getD (ax (aw) z) 0 [])) (aA rfl) (stDen0 (by assumption) rfl rfl)) <|hnil
    exact l4 (D := hC z) (E := BF z) (Gf := (fun _ : Unit => T.leaf)) (f := 4000) (tb := aN9) rfl rfl rfl rfl rfl rfl hl hq hs rfl dt h0 dr hx (aq.lp2 ((ab _ _).hyps ho) (by omega) m7 lu (bK (.inr ⟨⟨rfl, rfl⟩, j0, jz (l := lf18) (l' := lf19) (h := yf) (h' := lh19) (q := (0, .sr 64)) (q' := (0, .sr 124)) (ids := [2000000, 2000004]) (sg := [(124, 64)] ++ ig 64 60) (uL (l := lf18) (h := yf) (q := (0, .sr 64)) z (aw) (by omega) (by assumption) (by assumption) (by decide) (by omega) (by assumption) rfl rfl (by kernel_rfl) (ao := [(0, .s 6 dE), (2000000, .x 2000000)]) (ai := []) (ad (show Is _ (.s 6 dE) (St' (aw)) from bg (v := St' (aw)) (ar (l := aw) 6 dE rfl) (by first | rfl | (simp; done))) (aB (v := aN aO z) (aI))) (by kernel_rfl) (ak := [(2000000, .x 2000000), (2000004, .x 2000001)]) (aB (v := aN aO z) (aB (v := af (ax (aw) z)) (aI))) (by kernel_rfl)) rfl rfl rfl rfl rfl rfl rfl (by kernel_rfl) (by kernel_rfl)⟩) aj)) rfl (dv (by omega) (by omega) lx) qN (.inl ⟨fun _ => rfl, ⟨()⟩⟩) (ah (v := .int .i64 ((gW (List.getD (ax (aw) z) 0 [])))) (u := .int .i64 ((ec z))) rfl rfl (congrArg (Value.int .i64) hso.2.1) (ah (v := St' (jU (List.getD (ax (aw) z) 0 []))) (u := St' (eZ z)) rfl rfl (congrArg (fun l => St' l) hso.2.2) (aB (v := aN aO z) (aI)))) runSo_c1
   ·exfalso; have := dO (aw) z; have := List.length_pos_iff.2 (by assumption : ¬ ax (aw) z = []); have hso := soA1 (z := z) (by omega) (by assumption); exact absurd x0 hso.1
def aT7 (z : List (LB × LB)) : List Value := [St' (eM z)]
def roESo_1 (z : List (LB × LB)) : List Value := [aN aO z]
noncomputable def BD (z : List (LB × LB)) : Cx := cx (bG (aT7 z) (rX (roESo_1 z) (fun _ => .bool true))) (bJ (aV (l := aT7 z) rfl)) 1 aH aQ
theorem cfSo_1 {l : LF} {h : LH} {q : Nat × AV} (z : List (LB × LB)) (p0 : z.length ≤ 40) (p1 : ∀ q, q ∈ z → jW q) (p2 : ∀ q, q ∈ z → q.1.length ≤ 140737488351232) (p3 : 1 ≤ z.length) (p4 : ∀ q, q ∈ z → q.2.length ≤ 512) (x0 : ¬ dA z = 0) (hl : l.hp = some h) (hq : l.post = [q]) (hs : oV l h 4 124 424 = true) {ao : LA} {ai : List (Nat × Nat)} (dt : bE (cx nu one 1 aH aQ) (hC z) ao) (h0 : (lY ao (dK 124 124 ai) nK (l.pre.map (·.2)) && dN 124 124 ao ai (ae h.pre .leaf) kN && dM (numsOf 124 ai kN)) = true) {ak : LA} (dr : bE (BD z) (cx nu one 1 aH aQ) ak) (hx : (inA ak (dK 124 424 []) 8 q.2 (.tu [I6 0, .s 0 0, .aZ 63 (.ag [I6 10, .x 0])]) && dN 124 424 ak [] (ae [(41, .r 2000000 50 2 false)] .leaf) h.post && dM (numsOf 124 [] h.post)) = true) : kA (cx nu one 1 aH aQ) 37 l := by
 by_cases d0 : ax (aw) z = []
 ·by_cases d1 : ax (cV) z = []
  ·by_cases d2 : ax (db) z = []
   ·have := dO (aw) z
    have := congrArg List.length (by assumption : ax (aw) z = [])
    have := dO (cV) z
    have := congrArg List.length (by assumption : ax (cV) z = [])
    have := dO (db) z
    have := congrArg List.length (by assumption : ax (db) z = [])
    have hso := soD_ (z := z) (by assumption) (by assumption) (by assumption)
    have ho : ∀ a' r', (a', r') ∈ DZ → aM (hC z) a' r' := by
     unfold DZ
     exact hnil
    exact l4 (D := hC z) (E := BD z) (Gf := (fun _ : Unit => T.leaf)) (f := 4000) (tb := aN5) rfl rfl rfl rfl rfl rfl hl hq hs rfl dt h0 dr hx (aq.lp2 ((ab _ _).hyps ho) (by omega) m7 lu (bK (.inr ⟨⟨rfl, rfl⟩, j0, jz (l := lf22) (l' := lf33) (h := eI) (h' := lh33) (q := (0, .aL)) (q' := (0, .aL)) (ids := [2000000]) (sg := [] ++ ig 64 60) (qZ (l := lf22) (h := eI) (q := (0, .aL)) z (aw) (by omega) (by assumption) (by assumption) (by decide) (by omega) (by assumption) rfl rfl (by kernel_rfl) (ao := [(0, .s 6 dE), (2000000, .x 2000000)]) (ai := []) (ad (show Is _ (.s 6 dE) (St' (aw)) from bg (v := St' (aw)) (ar (l := aw) 6 dE rfl) (by first | rfl | (simp; done))) (aB (v := aN aO z) (aI))) (by kernel_rfl) (ak := [(2000000, .x 2000000)]) (aB (v := aN aO z) (aI)) (by kernel_rfl)) rfl rfl rfl rfl rfl rfl rfl (by kernel_rfl) (by kernel_rfl)⟩) (bK (.inr ⟨⟨rfl, rfl⟩, j0, jz (l := lf28) (l' := lf35) (h := eI) (h' := lh35) (q := (0, .aL)) (q' := (0, .aL)) (ids := [2000000]) (sg := [] ++ ig 64 110) (qZ (l := lf28) (h := eI) (q := (0, .aL)) z (cV) (by omega) (by assumption) (by assumption) (by decide) (by omega) (by assumption) rfl rfl (by kernel_rfl) (ao := [(0, .s 8 jP), (2000000, .x 2000000)]) (ai := []) (ad (show Is _ (.s 8 jP) (St' (cV)) from bg (v := St' (cV)) (ar (l := cV) 8 jP rfl) (by first | rfl | (simp; done))) (aB (v := aN aO z) (aI))) (by kernel_rfl) (ak := [(2000000, .x 2000000)]) (aB (v := aN aO z) (aI)) (by kernel_rfl)) rfl rfl rfl rfl rfl rfl rfl (by kernel_rfl) (by kernel_rfl)⟩) (bK (.inr ⟨⟨rfl, rfl⟩, j0, jz (l := lf36) (l' := lf37) (h := eI) (h' := lh37) (q := (0, .aL)) (q' := (0, .aL)) (ids := [2000000]) (sg := [] ++ ig 64 160) (qZ (l := lf36) (h := eI) (q := (0, .aL)) z (db) (by omega) (by assumption) (by assumption) (by decide) (by omega) (by assumption) rfl rfl (by kernel_rfl) (ao := [(0, .s 12 mE), (2000000, .x 2000000)]) (ai := []) (ad (show Is _ (.s 12 mE) (St' (db)) from bg (v := St' (db)) (ar (l := db) 12 mE rfl) (by first | rfl | (simp; done))) (aB (v := aN aO z) (aI))) (by kernel_rfl) (ak := [(2000000, .x 2000000)]) (aB (v := aN aO z) (aI)) (by kernel_rfl)) rfl rfl rfl rfl rfl rfl rfl (by kernel_rfl) (by kernel_rfl)⟩) aj)))) rfl (dv (by omega) (by omega) lx) qN (.inl ⟨fun _ => rfl, ⟨()⟩⟩) (ad (show Is _ (.s 25 fK) (St' (eM z)) from bg (v := St' (fJ)) (ar (l := fJ) 25 fK rfl) (congrArg (fun l => St' l) hso.2)) (aB (v := aN aO z) (aI))) runSo_c5
   ·exfalso; have := dO (aw) z; have := congrArg List.length (by assumption : ax (aw) z = []); have := dO (cV) z; have := congrArg List.length (by assumption : ax (cV) z = []); have := dO (db) z; have := List.length_pos_iff.2 (by assumption : ¬ ax (db) z = []); have hso := soC_ (z := z) (by assumption) (by assumption) (by assumption); exact x0 hso.1
  ·exfalso; have := dO (aw) z; have := congrArg List.length (by assumption : ax (aw) z = []); have := dO (cV) z; have := List.length_pos_iff.2 (by assumption : ¬ ax (cV) z = []); have hso := soB_ (z := z) (by assumption) (by assumption); exact x0 hso.1
 ·by_cases d1 : 1 < ((ax (aw) z).length : Int)
  ·have := dO (aw) z
   have := List.length_pos_iff.2 (by assumption : ¬ ax (aw) z = [])
   have hso := so3_ (z := z) (by omega)
   have ho : ∀ a' r', (a', r') ∈ De → aM (hC z) a' r' := by
    unfold De
    exact hc (kRl (aA rfl) (aG rfl) (by first | omega | (simp <;> omega))) <|hc cZ <|hnil
   exact l4 (D := hC z) (E := BD z) (Gf := (fun _ : Unit => T.leaf)) (f := 4000) (tb := aO0) rfl rfl rfl rfl rfl rfl hl hq hs rfl dt h0 dr hx (aq.lp2 ((ab _ _).hyps ho) (by omega) m7 lu (bK (.inr ⟨⟨rfl, rfl⟩, j0, jz (l := lf16) (l' := lf17) (h := yj) (h' := lh17) (q := (0, .sr 64)) (q' := (0, .sr 124)) (ids := [2000000, 2000002]) (sg := [(124, 64)] ++ ig 64 60) (uL (l := lf16) (h := yj) (q := (0, .sr 64)) z (aw) (by omega) (by assumption) (by assumption) (by decide) (by omega) (by assumption) rfl rfl (by kernel_rfl) (ao := [(0, .s 6 dE), (2000000, .x 2000000)]) (ai := []) (ad (show Is _ (.s 6 dE) (St' (aw)) from bg (v := St' (aw)) (ar (l := aw) 6 dE rfl) (by first | rfl | (simp; done))) (aB (v := aN aO z) (aI))) (by kernel_rfl) (ak := [(2000000, .x 2000000), (2000002, .x 2000001)]) (aB (v := aN aO z) (aB (v := af (ax (aw) z)) (aI))) (by kernel_rfl)) rfl rfl rfl rfl rfl rfl rfl (by kernel_rfl) (by kernel_rfl)⟩) aj)) rfl (dv (by omega) (by omega) lx) qN (.inl ⟨fun _ => rfl, ⟨()⟩⟩) (ad (show Is _ (.s 20 zn16) (St' (eM z)) from bg (v := St' (uu)) (ar (l := uu) 20 zn16 rfl) (congrArg (fun l => St' l) hso.2)) (aB (v := aN aO z) (aI))) runSo_c0
  ·by_cases d3 : dy (List.getD (ax (aw) z) 0 []) = 0
   ·exfalso; have := dO (aw) z; have := List.length_pos_iff.2 (by assumption : ¬ ax (aw) z = []); have hso := soA_ (z := z) (by omega) (by assumption); exact x0 hso.1
   ·have := dO (aw) z
    have := List.length_pos_iff.2 (by assumption : ¬ ax (aw) z = [])
    have := gs_le (nm := aw) p4 0
    have hso := soA1 (z := z) (by omega) (by assumption)
    have ho : ∀ a' r', (a', r') ∈ Dc → aM (hC z) a' r' := by
     unfold Dc
     exact hc (kRl (aA rfl) (aG rfl) (by first | omega | (simp <;> omega))) <|hc cN <|hc nA <|hc (kEl (j := 0) (aA rfl) (b7 (m := 0) rfl) (aG rfl) (by omega) (by first | omega | (simp <;> omega))) <|hc (aX0 (v := (List.getD (ax (aw) z) 0 [])) (aA rfl) (stDen1 (by assumption) rfl)) <|hnil
    exact l4 (D := hC z) (E := BD z) (Gf := (fun _ : Unit => T.leaf)) (f := 4000) (tb := aN8) rfl rfl rfl rfl rfl rfl hl hq hs rfl dt h0 dr hx (aq.lp2 ((ab _ _).hyps ho) (by omega) m7 lu (bK (.inr ⟨⟨rfl, rfl⟩, j0, jz (l := lf20) (l' := lf21) (h := yd) (h' := lh21) (q := (0, .sr 64)) (q' := (0, .sr 124)) (ids := [2000000, 2000006]) (sg := [(124, 64)] ++ ig 64 60) (uL (l := lf20) (h := yd) (q := (0, .sr 64)) z (aw) (by omega) (by assumption) (by assumption) (by decide) (by omega) (by assumption) rfl rfl (by kernel_rfl) (ao := [(0, .s 6 dE), (2000000, .x 2000000)]) (ai := []) (ad (show Is _ (.s 6 dE) (St' (aw)) from bg (v := St' (aw)) (ar (l := aw) 6 dE rfl) (by first | rfl | (simp; done))) (aB (v := aN aO z) (aI))) (by kernel_rfl) (ak := [(2000000, .x 2000000), (2000006, .x 2000001)]) (aB (v := aN aO z) (aB (v := af (ax (aw) z)) (aI))) (by kernel_rfl)) rfl rfl rfl rfl rfl rfl rfl (by kernel_rfl) (by kernel_rfl)⟩) aj)) rfl (dv (by omega) (by omega) lx) qN (.inl ⟨fun _ => rfl, ⟨()⟩⟩) (ah (v := St' (stM (dy (List.getD (ax (aw) z) 0 [])))) (u := St' (eM z)) rfl rfl (congrArg (fun l => St' l) hso.2) (aB (v := aN aO z) (aI))) runSo_c2
theorem hGl {C : Cx} (hP : C.P = Tryd.prog) (hn : C.br = 1) {w : World} (h : aH w) : ∃ e : Nat, ∀ v k, (H0 e).get v = some k → v < 4 ∧ v < C.br ∧ ∃ e' c m, k = oP e' c ∧ qs m c ∧ ow C w v e' m := by
 have hE := id h
 obtain ⟨e, g0⟩ := geOf (C := C) hP hE
 refine ⟨e, fun v k hv => ?_⟩
 unfold H0 at hv
 rw [dY _ _ _ _ (by omega)] at hv
 split at hv
 ·rename_i e0; subst e0; injection hv with hv; subst hv
  exact ⟨by omega, by rw [hn]; omega, e, _, _, rfl, ⟨trivial, rfl⟩, g0⟩
 ·simp [T.dH] at hv
theorem isErr {C : Cx} {a b : AV} {k : Int} {m : LB} (ha : Is C a (.int .i64 k)) (hb : Is C b (St' m)) : Is C (.aZ 63 (.ag [a, b])) (.iface 63 (.agg #[.int .i64 k, St' m])) := fun ρ v hv => by
 simp only [Rel, aJ] at hv
 obtain ⟨_, rfl, _, rfl, _, _, rfl, h1, _, _, rfl, h2, rfl⟩ := hv
 have e1 := ha ρ _ h1; have e2 := hb ρ _ h2; subst e1 e2; rfl
theorem fiNCd : cD.fn.get 7 = some (fI Tryd.f7 0) ∧ (fI Tryd.f7 0).body.isSome = true := ⟨rfl, by kernel_rfl⟩
def zi : LK := []
theorem runCd_0 (e : Nat) : okA (call (aT zi) 9000 7 [.aZ 63 (.ag [.x 0, .x 1])] ⟨H0 e , 4, 0, 0⟩) (.x 0) = true := by kernel_rfl
def xp (kv : Int) (m : LB) : List Value := [.int .i64 (kv), St' m]
theorem pathCd_0 (kv : Int) (m : LB) (w : World) (hl : aH w) : bp 7 #[.iface 63 (.agg #[.int .i64 kv, St' m])] w (.int .i64 (kv)) := by
 have ho : ∀ k r, (k, r) ∈ zi → aM (cx (bA (xp kv m)) (fun j _ => aV (l := xp kv m) rfl j) 1 aH aQ) k r := by
  unfold zi
  exact hnil
 refine cR (tb := (aT zi)) (ra := .x 0) rfl ((ab (bA (xp kv m)) (fun j _ => aV (l := xp kv m) rfl j)).hyps ho) rfl fiNCd.1 fiNCd.2 (fun e => runCd_0 e ) (args := [.iface 63 (.agg #[.int .i64 kv, St' m])]) (by simp only [aJ, Rel]; exact ⟨_, _, rfl, ⟨_, rfl, ⟨_, rfl, ⟨_, _, rfl, rfl, ⟨_, _, rfl, rfl, rfl⟩⟩⟩⟩, rfl⟩) w hl fun x hx => ?_
 simp only [Rel, aJ] at hx
 exact hx
theorem callsCd (kv : Int) (m : LB) (w : World) (hl : aH w) : bp 7 #[.iface 63 (.agg #[.int .i64 kv, St' m])] w (.int .i64 kv) := by
 rw [show (.int .i64 kv : Value) = (.int .i64 (kv) : Value) from by rfl]
 exact pathCd_0 kv m w hl
theorem zt {x0 r : AV} {kv : Int} {m : LB} (i0 : Is (cx nu one 1 aH aQ) x0 (.iface 63 (.agg #[.int .i64 kv, St' m]))) (hr : Den (cx nu one 1 aH aQ) r (.int .i64 kv)) : aM (cx nu one 1 aH aQ) (.call 7 [x0]) r := by
 intro ρ args ha w hl _
 simp only [aJ] at ha
 obtain ⟨v0, t0, rfl, a0, rfl⟩ := ha
 have e0 := i0 ρ _ a0; subst e0
 exact (callsCd kv m w hl).mono fun e w' he => ⟨_, he.1, hr ρ, he.2⟩
noncomputable def fV : FI := (cD.fn.get 15).getD default
theorem gO : cD.fn.get 15 = some fV := by kernel_rfl
theorem gN : fV.body = some (Tryd.f15.body.getD .skip) := by kernel_rfl
theorem fiB15 : fV.body.isSome = true := by rw [gN]; rfl
theorem gx : (di (Tryd.f15.body.getD .skip)).all (fun b => !(lT (Go.AX.keyOf b) 8888888)) = true := by kernel_rfl
def aPAs0 : List AV := [.aZ 63 (.ag [.x 0, .x 1]), .aZ 46 (.p 694 0)]
def Fg : LE := [(694, bk 40 [I6 0])]
def nuAs0 (k : Int) (m : LB) : List Value := [.int .i64 (k), St' m]
def roAs0 (k : Int) (m : LB) : List Value := []
noncomputable def BL (k : Int) (m : LB) : Cx := cx (bG (nuAs0 k m) (rX (roAs0 k m) (fun _ => .bool true))) (bJ (aV (l := nuAs0 k m) rfl)) 1 aH aQ
def FQ : LK := []
noncomputable def aJ0 : Tab := (aT FQ)
theorem runAs0_c0 (e : Nat) : jY (call aJ0 3000 15 aPAs0 ⟨ae Fg ((fun e : Nat => H0 e) e), 695, 0, 0⟩) (.b true) [] [] 694 744 [] = true := by kernel_rfl
def aL1 (k : Int) (m : LB) : List Value := []
def roEAs0_0 (k : Int) (m : LB) : List Value := []
noncomputable def EAs0_0 (k : Int) (m : LB) : Cx := cx (bG (aL1 k m) (rX (roEAs0_0 k m) (fun _ => .bool true))) (bJ (aV (l := aL1 k m) rfl)) 1 aH aQ
theorem gw {l : LF} {h : LH} {q : Nat × AV} (k : Int) (m : LB) (p0 : 0 ≤ k ∧ k ≤ 100) (p1 : m.length ≤ 1000) (hl : l.hp = some h) (hq : l.post = [q]) (hs : oV l h 4 694 744 = true) {ao : LA} {ai : List (Nat × Nat)} (dt : bE (cx nu one 1 aH aQ) (BL k m) ao) (h0 : (lY ao (dK 694 695 ai) aPAs0 (l.pre.map (·.2)) && dN 694 695 ao ai (ae h.pre .leaf) Fg && dM (numsOf 694 ai Fg)) = true) {ak : LA} (dr : bE (EAs0_0 k m) (cx nu one 1 aH aQ) ak) (hx : (inA ak (dK 694 744 []) 8 q.2 (.b true) && dN 694 744 ak [] (ae [] .leaf) h.post && dM (numsOf 694 [] h.post)) = true) : kA (cx nu one 1 aH aQ) 15 l := by
 skip
 have ho : ∀ a' r', (a', r') ∈ FQ → aM (BL k m) a' r' := by
  unfold FQ
  exact hnil
 exact l4 (D := BL k m) (E := EAs0_0 k m) (Gf := (fun e : Nat => H0 e)) (f := 3000) (tb := aJ0) rfl rfl rfl rfl rfl rfl hl hq hs rfl dt h0 dr hx ((ab _ _).hyps ho) rfl gO fiB15 (.inr ⟨rfl, fun w hi => hGl (C := BL k m) rfl rfl hi⟩) (aI) runAs0_c0
structure GS where
 w : Nat
 L : LB
 F : List (LB × LB)
 J : Int
 n : Int
 R : LB
 D : List (LB × LB)
 k : Int
 m : LB
def m9 (k : Int) (m : LB) : GS := ⟨2, [], [], 0, 0, [], [], k, m⟩
def aK (l : LB) : LB := Lib.trimSuffix l [13]
theorem cq (l : LB) : (aK l).length ≤ l.length := Lib.trimSuffix_le l [13]
def iu (F : List (LB × LB)) (i : Nat) (l : LB) : GS :=
 if l.length = 0 then (if dA F = 0 then ⟨1, [], [], (i : Int) + 1, ec F, eZ F, dC aw F, 0, []⟩ else m9 10 (eM F))
 else if bt l 0 = 32 ∨ bt l 0 = 9 then m9 10 dQ
 else if ¬ pK l = 0 then m9 (pC l) (pM (pK l))
 else if 32 < (F.length : Int) + 1 then m9 12 mC
 else ⟨0, [], F ++ [(pA l, pB l)], 0, 0, [], [], 0, []⟩
def kE (L : LB) (F : List (LB × LB)) (i : Nat) (b : Int) : GS :=
 if 1000 < (i : Int) + 1 then m9 12 gS
 else if ¬ b = 10 then ⟨0, L ++ [u8 b], F, 0, 0, [], [], 0, []⟩
 else iu F i (aK L)
def bw (s : LB) : Nat → GS
 | 0 => ⟨0, [], [], 0, 0, [], [], 0, []⟩
 | i + 1 => if (bw s i).w = 0 then kE (bw s i).L (bw s i).F i (bt s i) else bw s i
def wG (s : LB) (i : Int) : Nat := (bw s i.toNat).w
def aC (s : LB) (i : Int) : LB := (bw s i.toNat).L
def aR (s : LB) (i : Int) : List (LB × LB) := (bw s i.toNat).F
def JS (s : LB) : Int := (bw s s.length).J
def nS (s : LB) : Int := (bw s s.length).n
def RS (s : LB) : LB := (bw s s.length).R
def DS (s : LB) : List (LB × LB) := (bw s s.length).D
def kS (s : LB) : Int := (bw s s.length).k
def mS (s : LB) : LB := (bw s s.length).m
theorem Bv {s : LB} {i : Nat} (h : ¬ (bw s i).w = 0) : ∀ d, bw s (i + d) = bw s i
 | 0 => rfl
 | d + 1 => by
  have ih := Bv h d
  show bw s ((i + d) + 1) = _
  rw [bw, ih, if_neg h]
theorem wstay {s : LB} {i j : Int} (h : ¬ wG s i = 0) (h0 : 0 ≤ i) (hj : i ≤ j) : wG s j = wG s i := by
 have := Bv h (j.toNat - i.toNat)
 rw [show i.toNat + (j.toNat - i.toNat) = j.toNat by omega] at this
 unfold wG; rw [this]
theorem AD {s : LB} {i : Int} (h : ¬ wG s i = 0) (h0 : 0 ≤ i) (hi : i ≤ (s.length : Int)) : bw s s.length = bw s i.toNat := by
 have := Bv h (s.length - i.toNat)
 rw [show i.toNat + (s.length - i.toNat) = s.length by omega] at this
 exact this
theorem nxtG {s : LB} {i j : Int} (h0 : 0 ≤ i) (hj : j = i + 1) (hw : wG s i = 0) : bw s j.toNat = kE (aC s i) (aR s i) i.toNat (bt s i.toNat) := by
 rw [show j.toNat = i.toNat + 1 by omega, bw]; exact if_pos hw
theorem fd0 {s : LB} {i : Int} (h : i = 0) : aR s i = [] ∧ aC s i = [] := by subst h; exact ⟨rfl, rfl⟩
theorem fc (s : LB) : wG s 0 = 0 := rfl
section
variable {s : LB} {i j : Int}
theorem Ak (h0 : 0 ≤ i) (hj : j = i + 1) (hw : wG s i = 0) (hl : i < (s.length : Int)) (a : 1000 < i + 1) : wG s j = 2 ∧ kS s = 12 ∧ mS s = gS := by
 have e := nxtG h0 hj hw
 rw [kE, if_pos (by omega)] at e
 have w : wG s j = 2 := by unfold wG; rw [e]; rfl
 have f := AD (s := s) (i := j) (by omega) (by omega) (by omega)
 unfold kS mS; rw [f, e]; exact ⟨w, rfl, rfl⟩
theorem c_by (h0 : 0 ≤ i) (hj : j = i + 1) (hw : wG s i = 0) (a : ¬ 1000 < i + 1) (b : ¬ bt s i.toNat = 10) : wG s j = 0 ∧ aC s j = aC s i ++ [u8 (bt s i.toNat)] ∧ aR s j = aR s i := by
 have e := nxtG h0 hj hw
 rw [kE, if_neg (by omega), if_pos b] at e
 unfold wG; rw [show aC s j = (bw s j.toNat).L from rfl, show aR s j = (bw s j.toNat).F from rfl, e]; exact ⟨rfl, rfl, rfl⟩
theorem liE (h0 : 0 ≤ i) (hj : j = i + 1) (hw : wG s i = 0) (a : ¬ 1000 < i + 1) (b : bt s i.toNat = 10) : bw s j.toNat = iu (aR s i) i.toNat (aK (aC s i)) := by
 have e := nxtG h0 hj hw
 rw [kE, if_neg (by omega), if_neg (fun q => q b)] at e; exact e
theorem qc (h0 : 0 ≤ i) (hj : j = i + 1) (hw : wG s i = 0) (hl : i < (s.length : Int)) (a : ¬ 1000 < i + 1) (b : bt s i.toNat = 10) (c : (aK (aC s i)).length = 0) (d : dA (aR s i) = 0) : wG s j = 1 ∧ JS s = j ∧ nS s = ec (aR s i) ∧ RS s = eZ (aR s i) ∧ DS s = dC aw (aR s i) := by
 have e := liE h0 hj hw a b
 rw [iu, if_pos c, if_pos d] at e
 have w : wG s j = 1 := by unfold wG; rw [e]
 have f := AD (s := s) (i := j) (by omega) (by omega) (by omega)
 unfold JS nS RS DS; rw [f, e]; exact ⟨w, by show ((i.toNat : Nat) : Int) + 1 = j; omega, rfl, rfl, rfl⟩
theorem erE {k : Int} {m : LB} (h0 : 0 ≤ i) (hj : j = i + 1) (hl : i < (s.length : Int)) (e : bw s j.toNat = m9 k m) : wG s j = 2 ∧ kS s = k ∧ mS s = m := by
 have w : wG s j = 2 := by unfold wG; rw [e]; rfl
 have f := AD (s := s) (i := j) (by omega) (by omega) (by omega)
 unfold kS mS; rw [f, e]; exact ⟨w, rfl, rfl⟩
theorem qa (h0 : 0 ≤ i) (hj : j = i + 1) (hw : wG s i = 0) (hl : i < (s.length : Int)) (a : ¬ 1000 < i + 1) (b : bt s i.toNat = 10) (c : (aK (aC s i)).length = 0) (d : ¬ dA (aR s i) = 0) : wG s j = 2 ∧ kS s = 10 ∧ mS s = eM (aR s i) := by
 have e := liE h0 hj hw a b
 rw [iu, if_pos c, if_neg d] at e; exact erE h0 hj hl e
theorem nG (h0 : 0 ≤ i) (hj : j = i + 1) (hw : wG s i = 0) (hl : i < (s.length : Int)) (a : ¬ 1000 < i + 1) (b : bt s i.toNat = 10) (c : ¬ (aK (aC s i)).length = 0) (d : bt (aK (aC s i)) 0 = 32 ∨ bt (aK (aC s i)) 0 = 9) : wG s j = 2 ∧ kS s = 10 ∧ mS s = dQ := by
 have e := liE h0 hj hw a b
 rw [iu, if_neg c, if_pos d] at e; exact erE h0 hj hl e
theorem nF (h0 : 0 ≤ i) (hj : j = i + 1) (hw : wG s i = 0) (hl : i < (s.length : Int)) (a : ¬ 1000 < i + 1) (b : bt s i.toNat = 10) (c : ¬ (aK (aC s i)).length = 0) (d : ¬ (bt (aK (aC s i)) 0 = 32 ∨ bt (aK (aC s i)) 0 = 9)) (f : ¬ pK (aK (aC s i)) = 0) : wG s j = 2 ∧ kS s = pC (aK (aC s i)) ∧ mS s = pM (pK (aK (aC s i))) := by
 have e := liE h0 hj hw a b
 rw [iu, if_neg c, if_neg d, if_pos f] at e; exact erE h0 hj hl e
theorem c_my (h0 : 0 ≤ i) (hj : j = i + 1) (hw : wG s i = 0) (hl : i < (s.length : Int)) (a : ¬ 1000 < i + 1) (b : bt s i.toNat = 10) (c : ¬ (aK (aC s i)).length = 0) (d : ¬ (bt (aK (aC s i)) 0 = 32 ∨ bt (aK (aC s i)) 0 = 9)) (f : pK (aK (aC s i)) = 0) (g : 32 < ((aR s i).length : Int) + 1) : wG s j = 2 ∧ kS s = 12 ∧ mS s = mC := by
 have e := liE h0 hj hw a b
 rw [iu, if_neg c, if_neg d, if_neg (fun q => q f), if_pos g] at e; exact erE h0 hj hl e
theorem c_ok (h0 : 0 ≤ i) (hj : j = i + 1) (hw : wG s i = 0) (a : ¬ 1000 < i + 1) (b : bt s i.toNat = 10) (c : ¬ (aK (aC s i)).length = 0) (d : ¬ (bt (aK (aC s i)) 0 = 32 ∨ bt (aK (aC s i)) 0 = 9)) (f : pK (aK (aC s i)) = 0) (g : ¬ 32 < ((aR s i).length : Int) + 1) : wG s j = 0 ∧ aC s j = [] ∧ aR s j = aR s i ++ [(pA (aK (aC s i)), pB (aK (aC s i)))] := by
 have e := liE h0 hj hw a b
 rw [iu, if_neg c, if_neg d, if_neg (fun q => q f), if_neg g] at e
 unfold wG; rw [show aC s j = (bw s j.toNat).L from rfl, show aR s j = (bw s j.toNat).F from rfl, e]; exact ⟨rfl, rfl, rfl⟩
end
theorem pa_len (l : LB) : (pA l).length ≤ 64 ∧ (pB l).length ≤ 512 := by
 unfold pA pB
 by_cases h : pK l = 0
 ·rw [if_pos h, if_pos h]
  unfold pK at h
  by_cases h1 : aF l 58 < 0
  ·rw [if_pos h1] at h; omega
  rw [if_neg h1] at h
  by_cases h2 : cU (pN l) = true
  ·rw [if_neg (fun q => q h2)] at h
   by_cases h3 : dk (bb (pV l)) = true
   ·rw [if_neg (fun q => q h3)] at h
    by_cases h4 : 64 < aF l 58
    ·rw [if_pos h4] at h; omega
    rw [if_neg h4] at h
    by_cases h5 : 512 < (bb (pV l)).length
    ·rw [if_pos h5] at h; omega
    refine ⟨?_, by omega⟩
    show (List.take (Int.toNat (aF l 58)) l).length ≤ 64
    rw [List.length_take]; omega
   ·rw [if_pos h3] at h; omega
  ·rw [if_pos h2] at h; omega
 ·rw [if_neg h, if_neg h]; exact ⟨by decide, by decide⟩
theorem gbN (s : LB) : ∀ i : Nat, (bw s i).w = 0 → (bw s i).L.length ≤ i ∧ (bw s i).F.length ≤ 32 ∧ ∀ q, q ∈ (bw s i).F → q.1.length ≤ 64 ∧ q.2.length ≤ 512
 | 0, _ => ⟨Nat.le_refl _, by show (0 : Nat) ≤ 32; omega, fun q hq => by cases hq⟩
 | i + 1, hw => by
  by_cases h : (bw s i).w = 0
  ·have ih := gbN s i h
   rw [bw, if_pos h] at hw ⊢
   unfold kE at hw ⊢
   by_cases a : 1000 < (i : Int) + 1
   ·rw [if_pos a] at hw; cases hw
   rw [if_neg a] at hw ⊢
   by_cases b : bt s i = 10
   ·rw [if_neg (fun q => q b)] at hw ⊢
    unfold iu at hw ⊢
    by_cases c : (aK (bw s i).L).length = 0
    ·rw [if_pos c] at hw
     split at hw <;> cases hw
    rw [if_neg c] at hw ⊢
    by_cases d : bt (aK (bw s i).L) 0 = 32 ∨ bt (aK (bw s i).L) 0 = 9
    ·rw [if_pos d] at hw; cases hw
    rw [if_neg d] at hw ⊢
    by_cases f : pK (aK (bw s i).L) = 0
    ·rw [if_neg (fun q => q f)] at hw ⊢
     by_cases g : 32 < ((bw s i).F.length : Int) + 1
     ·rw [if_pos g] at hw; cases hw
     rw [if_neg g]
     refine ⟨Nat.zero_le _, ?_, fun q hq => ?_⟩
     ·show ((bw s i).F ++ _).length ≤ 32
      rw [List.length_append, List.length_singleton]; omega
     ·rcases List.mem_append.1 hq with hq | hq
      ·exact ih.2.2 q hq
      ·rw [List.mem_singleton.1 hq]; exact pa_len _
    ·rw [if_pos f] at hw; cases hw
   ·rw [if_pos b]
    exact ⟨by show ((bw s i).L ++ _).length ≤ i + 1; rw [List.length_append, List.length_singleton]; omega, ih.2⟩
  ·rw [bw, if_neg h] at hw; exact absurd hw h
theorem gb {s : LB} {i : Int} (h0 : 0 ≤ i) (hw : wG s i = 0) : ((aC s i).length : Int) ≤ i ∧ (aR s i).length ≤ 32 ∧ (∀ q, q ∈ aR s i → jW q) ∧ (∀ q, q ∈ aR s i → q.1.length ≤ 140737488351232) ∧ (∀ q, q ∈ aR s i → q.2.length ≤ 512) := by
 have h := gbN s i.toNat hw
 refine ⟨?_, h.2.1, fun q hq => ?_, fun q hq => ?_, fun q hq => (h.2.2 q hq).2⟩
 ·have := h.1; unfold aC; omega
 ·have := h.2.2 q hq; exact ⟨by omega, by omega⟩
 ·have := h.2.2 q hq; omega
def xG (s x : LB) (t : Int) : Prop := x = (s.drop t.toNat).take x.length
theorem cT {s x : LB} {t n : Int} (h : xG s x t) (ht : 0 ≤ t) (hn : 0 ≤ n) (hx : n < (x.length : Int)) (hl : t + (x.length : Int) ≤ (s.length : Int)) : bt x n.toNat = bt s (Int.toNat (t + n)) := by
 have e : x[n.toNat]? = s[(t + n).toNat]? := by
  rw [h, List.getElem?_take, if_pos (by omega), List.getElem?_drop, show t.toNat + n.toNat = (t + n).toNat by omega]
 unfold bt
 rw [List.getD_eq_getElem?_getD, List.getD_eq_getElem?_getD, e]
theorem wst {s : LB} {j k : Int} {w : Nat} (h : wG s j = w) (hw : 0 < w := by omega) (h0 : 0 ≤ j := by omega) (hk : j ≤ k := by omega) : wG s k = w := (wstay (i := j) (j := k) (by omega) h0 hk).trans h
theorem o8 : ¬ dA [] = 0 ∧ fJ = eM [] := soD_ rfl rfl rfl
theorem mP (k : Nat) : (pM k).length ≤ 100 := by
 unfold pM; repeat (first | decide | split)
theorem aQ8 (F : List (LB × LB)) : (eM F).length ≤ 100 := by
 unfold eM stM; repeat (first | decide | split)
theorem mQ {l : LB} (h : ¬ pK l = 0) : pC l = 10 ∨ pC l = 12 := by
 unfold pC; rw [if_neg h]; split
 ·exact .inl rfl
 ·exact .inr rfl
section
open Go.Shelf
def shU_ren : Go.Shelf.Ren := ⟨fun | 102 => 25 | 209 => 36 | 207 => 53 | n => n, fun | 9 => 9 | 4 => 4 | 3 => 3 | n => n, fun | n => n⟩
theorem shU : Go.Proofs.Lays.n102 Tryd.prog shU_ren := {
 mixed := by kernel_rfl
 f102 := Tryd.func25.trans (congrArg some (by kernel_rfl))
 f207 := Tryd.func53.trans (congrArg some (by kernel_rfl))
 f209 := Tryd.func36.trans (congrArg some (by kernel_rfl))
 t3 := Tryd.underlying3
 a3 := Tryd.isAgg3
 z3 := Tryd.sizeOf3
 v3 := Tryd.zeroValue3
 t4 := Tryd.underlying4
 a4 := Tryd.isAgg4
 z4 := Tryd.sizeOf4
 v4 := Tryd.zeroValue4
 t9 := Tryd.underlying9
 a9 := Tryd.isAgg9
 z9 := Tryd.sizeOf9
 v9 := Tryd.zeroValue9 }
end
theorem callsTsf (s : LB) (b0 : s.length ≤ 140737488355328) (w : World) : Calls Tryd.prog 25 #[St' s, St' [u8 13]] w fun e w' => e = .returned (St' (aK s)) ∧ w' = w := by
 have h := Any.strings_TrimSuffix shU ⟨s.toArray⟩ ⟨#[13]⟩ w (show s.toArray.size ≤ _ by rw [List.size_toArray]; omega)
 rw [show (⟨s.toArray⟩ : ByteArray).data.toList = s by simp, show (⟨#[13]⟩ : ByteArray).data.toList = [13] from rfl] at h; exact h
theorem fm {x0 x1 r : AV} {s : LB} (i0 : Is (cx nu one 1 aH aQ) x0 (St' s)) (i1 : Is (cx nu one 1 aH aQ) x1 (St' [u8 13])) (hr : Den (cx nu one 1 aH aQ) r (St' (aK s))) (p0 : s.length ≤ 140737488355328 := by omega) : aM (cx nu one 1 aH aQ) (.call 25 [x0, x1]) r := by
 intro ρ args ha w hl _
 simp only [aJ] at ha
 obtain ⟨v0, t0, rfl, a0, v1, t1, rfl, a1, rfl⟩ := ha
 have e0 := i0 ρ _ a0; subst e0
 have e1 := i1 ρ _ a1; subst e1
 exact (callsTsf s p0 w).mono fun e w' he => ⟨_, he.1, hr ρ, by rw [he.2]; exact Below.refl _ _⟩
end Go.Proofs.YtcjanblpboaleaaDoor.cgiCuts

