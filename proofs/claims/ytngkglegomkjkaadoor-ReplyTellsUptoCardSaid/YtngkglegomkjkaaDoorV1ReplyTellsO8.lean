/- A part of the proof: what an interpreter answers on partly known states is what the program answers. No condition. -/
import Derived.Test.YtngkglegomkjkaaDoorV1ReplyTellsO7
set_option maxRecDepth 100000
set_option linter.unusedVariables false
set_option linter.unusedSimpArgs false
set_option maxHeartbeats 4000000
namespace Go.Proofs.YtngkglegomkjkaaDoor.replyTells
open Go Go.AX Go.Proofs Go.Proofs.YtngkglegomkjkaaDoor
variable {nu : Nat → Value} {one : ∀ i, i < 1000000 → (nu i).oneCell' = true} {E' : Cx} {x' : Ex} {e' : LA} {h' : LE}
def ba (nm : LB) (l : List (LB × LB)) : List (LB × LB) := l.filter fun p => !(aj p.1 == aj nm)
theorem AY {nm : LB} {z : List (LB × LB)} {i : Int} (h0 : 0 ≤ i) (h1 : i < (z.length : Int)) (h : ¬ aj (aU z i.toNat).1 = aj nm) : ba nm (z.take (i + 1).toNat) = ba nm (z.take i.toNat) ++ [((aU z i.toNat).1, (aU z i.toNat).2)] := by
 have e : (aj (aU z i.toNat).1 == aj nm) = false := by simpa using h
 rw [nj h0 h1, ba, ba, List.filter_append, List.filter_cons, e]; rfl
theorem AZ {nm : LB} {z : List (LB × LB)} {i : Int} (h0 : 0 ≤ i) (h1 : i < (z.length : Int)) (h : aj (aU z i.toNat).1 = aj nm) : ba nm (z.take (i + 1).toNat) = ba nm (z.take i.toNat) := by
 have e : (aj (aU z i.toNat).1 == aj nm) = true := by simpa using h
 rw [nj h0 h1, ba, ba, List.filter_append, List.filter_cons, e]; simp
theorem lT {nm : LB} {z : List (LB × LB)} {i : Int} (h0 : 0 ≤ i) (h1 : ¬ i < (z.length : Int)) : ba nm (z.take i.toNat) = ba nm z := by
 rw [List.take_of_length_le (by omega)]
theorem gI (nm : LB) (l : List (LB × LB)) : (ba nm l).length ≤ l.length := List.length_filter_le _ _
theorem okB_dr {nm : LB} {z : List (LB × LB)} (h : okB z) : okB (ba nm z) := fun q hq => h q (List.mem_filter.1 hq).1
theorem prB_dr {nm : LB} {z : List (LB × LB)} (h : ∀ q, q ∈ z → cf q) : ∀ q, q ∈ ba nm z → cf q := fun q hq => h q (List.mem_filter.1 hq).1
def cX : List AV := [.s 10 cJ, .s 17 dJ, .s 14 dX, .s 6 eD, .s 10 cg]
theorem Br (c : Int) : (cq cX c).length ≤ 17 := by
 have h : ∀ x ∈ cX, (match x with | .s len n => (bV len n).length | _ => 0) ≤ 17 := by decide
 unfold cq
 cases hc : cX[c.toNat]? with
 | none => exact Nat.zero_le _
 | some x => have := h x (List.mem_of_getElem? hc); cases x <;> first | exact this | exact Nat.zero_le _
def dN (z : List (LB × LB)) : Nat → List (LB × LB)
 | 0 => z
 | k + 1 => ba (cq cX (k : Int)) (dN z k)
theorem Ae {z : List (LB × LB)} {i : Int} (h : 0 ≤ i) : ba (cq cX i) (dN z i.toNat) = dN z (Int.toNat (i + 1)) := by
 obtain ⟨n, rfl⟩ := Int.eq_ofNat_of_zero_le h
 rfl
theorem dN_1 (z : List (LB × LB)) : ba cR z = dN z (Int.toNat 1) := rfl
theorem dw (z : List (LB × LB)) : ∀ k, (dN z k).length ≤ z.length
 | 0 => Nat.le_refl _
 | k + 1 => Nat.le_trans (gI _ _) (dw z k)
theorem l8 {z : List (LB × LB)} (h : okB z) : ∀ k, okB (dN z k)
 | 0 => h
 | k + 1 => okB_dr (l8 h k)
theorem l6 {z : List (LB × LB)} (h : ∀ q, q ∈ z → cf q) : ∀ k, ∀ q, q ∈ dN z k → cf q
 | 0 => h
 | k + 1 => prB_dr (l6 h k)
theorem drop_0 {nm : LB} {z : List (LB × LB)} (h : z = []) : ba nm z = [] := by rw [h]; rfl
theorem rS (z : List (LB × LB)) : dN z 5 = aX z := by
 show ba _ (ba _ (ba _ (ba _ (ba _ z)))) = _
 unfold ba aX
 simp only [List.filter_filter]
 congr 1
 funext p
 rw [show aj (cq cX ((4 : Nat) : Int)) = eM by decide, show aj (cq cX ((3 : Nat) : Int)) = lp by decide, show aj (cq cX ((2 : Nat) : Int)) = jO by decide, show aj (cq cX ((1 : Nat) : Int)) = iD by decide, show aj (cq cX ((0 : Nat) : Int)) = cR by decide]
 unfold cM
 (repeat' split) <;> simp_all
theorem xI {z : List (LB × LB)} (h : dN z 5 = []) : aq (aX z) = [] := by rw [← rS, h]; rfl
noncomputable def re : Code := fa (Tryd.f31.body.getD .skip) 0
theorem keyDp3 : fH (ct (Tryd.f31.body.getD .skip)) 3 0 0 = true := by kernel_rfl
def iu : List Nat := []
def E4 : LA := [(1, .x 0), (5, .bO), (0, .sr 3), (6, .x 1)]
def EY : LE := [(3, .r 2000000 37 2 true)]
def wG (z : List (LB × LB)) (nm : LB) (i : Int) (O : List (LB × LB)) : List Value := [St' nm, .int .i64 (i), St' ([] : LB), .int .i64 ((z.length : Int)), St' ((aU z i.toNat).1), St' (aj ((aU z i.toNat).1)), St' (aj nm), .int .i64 (i + 1), St' ([] : LB), .int .i64 ((z.length : Int)), St' ([] : LB), .int .i64 ((z.length : Int)), St' ((aU z i.toNat).1), St' (aj ((aU z i.toNat).1)), St' (aj nm), St' ((aU z i.toNat).2), .int .i64 (i + 1)]
def aT5 (z : List (LB × LB)) (nm : LB) (i : Int) (O : List (LB × LB)) : List Value := [aN aM z, bJ ([] : List LB), bJ ([] : List LB), bJ ([] : List LB), aN aM (([] : List (LB × LB)) ++ [((aU z i.toNat).1, (aU z i.toNat).2)])]
def rN : LA := [(1, .x 0), (5, .sr 423), (0, .sr 3), (6, .x 1)]
def qs : LE := [(3, .r 2000000 37 2 true), (423, .r 2000001 37 2 false)]
def wF (z : List (LB × LB)) (nm : LB) (i : Int) (O : List (LB × LB)) : List Value := [St' nm, .int .i64 (i), St' ([] : LB), .int .i64 ((z.length : Int)), St' ((aU z i.toNat).1), St' (aj ((aU z i.toNat).1)), St' (aj nm), .int .i64 (i + 1), St' ([] : LB), .int .i64 ((z.length : Int)), St' ([] : LB), .int .i64 ((z.length : Int)), St' ((aU z i.toNat).1), St' (aj ((aU z i.toNat).1)), St' (aj nm), St' ((aU z i.toNat).2), .int .i64 (i + 1)]
def aT4 (z : List (LB × LB)) (nm : LB) (i : Int) (O : List (LB × LB)) : List Value := [aN aM z, aN aM O, bJ ([] : List LB), bJ ([] : List LB), bJ ([] : List LB), aN aM (O ++ [((aU z i.toNat).1, (aU z i.toNat).2)])]
def mb (st : Nat × Int × List (LB × LB)) : LA := if st.1 = 0 then E4 else rN
def qt (st : Nat × Int × List (LB × LB)) : LE := if st.1 = 0 then EY else qs
def Ca (z : List (LB × LB)) (nm : LB) (st : Nat × Int × List (LB × LB)) : List Value := if st.1 = 0 then wG z nm (st.2.1) (st.2.2) else wF z nm (st.2.1) (st.2.2)
def roDp3 (z : List (LB × LB)) (nm : LB) (st : Nat × Int × List (LB × LB)) : List Value := if st.1 = 0 then aT5 z nm (st.2.1) (st.2.2) else aT4 z nm (st.2.1) (st.2.2)
theorem onDp3 (z : List (LB × LB)) (nm : LB) (st : Nat × Int × List (LB × LB)) : ∀ j, (aY (Ca z nm st) j).oneCell' = true := by
 intro j
 unfold Ca
 by_cases g0 : st.1 = 0
 ·rw [if_pos g0]; exact aT (l := wG z nm (st.2.1) (st.2.2)) rfl j
 rw [if_neg g0]
 exact aT (l := wF z nm (st.2.1) (st.2.2)) rfl j
theorem ebDp3 (st : Nat × Int × List (LB × LB)) : (dG (mb st) && eG iu) = true := by
 unfold mb
 by_cases g0 : st.1 = 0
 ·rw [if_pos g0]; rfl
 rw [if_neg g0]
 rfl
noncomputable def sQ (z : List (LB × LB)) (nm : LB) (st : Nat × Int × List (LB × LB)) (X : Nat → Value) : Cx := cx (ay (Ca z nm st) (rX (roDp3 z nm st) X)) (az (onDp3 z nm st)) 3 aG aJ
abbrev Fu (z : List (LB × LB)) (nm : LB) (tag : Nat) (i : Int) (O : List (LB × LB)) : Prop := (0 ≤ i) ∧ (i ≤ (z.length : Int)) ∧ (z.length ≤ 40 ∧ nm.length ≤ 100) ∧ (∀ q, q ∈ z → cf q) ∧ (okB z) ∧ (O = ba nm (z.take i.toNat)) ∧ (tag = 0 → O = []) ∧ (tag = 1 → 1 ≤ O.length) ∧ (tag < 2)
def gQ (z : List (LB × LB)) (nm : LB) (st : Nat × Int × List (LB × LB)) : Prop := Fu z nm st.1 (st.2.1) (st.2.2)
theorem oD {z : List (LB × LB)} {nm : LB} {tag : Nat} {i : Int} {O : List (LB × LB)} (h : Fu z nm tag i O) : gQ z nm (tag, i, O) := h
theorem nf (z : List (LB × LB)) (nm : LB) (tag : Nat) (i : Int) (O : List (LB × LB)) (h : gQ z nm (tag, i, O)) : Fu z nm tag i O := h
def mA (z : List (LB × LB)) (nm : LB) (st : Nat × Int × List (LB × LB)) : Nat := (z.length - (st.2.1).toNat)
abbrev jN (z : List (LB × LB)) (nm : LB) (E' : Cx) (ex' : Ex) (epx' : LA) (hpx' : LE) (st : Nat × Int × List (LB × LB)) (X : Nat → Value) : Prop := bm E' re iu 30 ex' 3 423 424 463 mb qt epx' hpx' (gQ z nm) (mA z nm) (sQ z nm) st X
noncomputable abbrev BU (z : List (LB × LB)) (nm : LB) (i : Int) (O : List (LB × LB)) (X : Nat → Value) : Cx := cx (ay (wG z nm i O) (rX (aT5 z nm i O) X)) (az (aT (l := wG z nm i O) rfl)) 3 aG aJ
noncomputable abbrev sG (h : LK) (x : Ex) (th : LA) (sg : List (Nat × Nat)) (m : Nat) (ep : LA) (hp : LE) : Bool := cr (code (aR h) 3000 [] re (cN (cV E4 iu) 30) ⟨bA EY .leaf, 424, 0, 0⟩) x iu 30 463 th sg 423 m ep hp
theorem aR4 {z : List (LB × LB)} {nm : LB} {i : Int} {O : List (LB × LB)} {X : Nat → Value} {h : LK} (y : Nat × Int × List (LB × LB)) {th : LA} {sg : List (Nat × Nat)} (ho : ∀ a' r', (a', r') ∈ h → aS (BU z nm i O X) a' r') (hy : gQ z nm y) (lt : mA z nm y < mA z nm (0, i, O)) (ht : bN (BU z nm i O X) (sQ z nm y X) th) (run : sG h .normal th sg 424 (mb y) (qt y) = true) : jN z nm E' x' e' h' (0, i, O) X :=
 bm.next (tb := aR h) (L := []) (f := 3000) y ((ab _ _).hyps ho) (bU.nil _) rfl hy lt ht run
theorem lvDp3_0 {z : List (LB × LB)} {nm : LB} {i : Int} {O : List (LB × LB)} {X : Nat → Value} {h : LK} {th : LA} {sg : List (Nat × Nat)} (hne : eK x' .normal = false) (ho : ∀ a' r', (a', r') ∈ h → aS (BU z nm i O X) a' r') (ht : bN (BU z nm i O X) E' th) (run : sG h x' th sg 463 e' h' = true) : jN z nm E' x' e' h' (0, i, O) X :=
 bm.leave (tb := aR h) (L := []) (f := 3000) ((ab _ _).hyps ho) (bU.nil _) rfl hne ht run
noncomputable abbrev BT (z : List (LB × LB)) (nm : LB) (i : Int) (O : List (LB × LB)) (X : Nat → Value) : Cx := cx (ay (wF z nm i O) (rX (aT4 z nm i O) X)) (az (aT (l := wF z nm i O) rfl)) 3 aG aJ
noncomputable abbrev sF (h : LK) (x : Ex) (th : LA) (sg : List (Nat × Nat)) (m : Nat) (ep : LA) (hp : LE) : Bool := cr (code (aR h) 3000 [] re (cN (cV rN iu) 30) ⟨bA qs .leaf, 424, 0, 0⟩) x iu 30 463 th sg 423 m ep hp
theorem aR3 {z : List (LB × LB)} {nm : LB} {i : Int} {O : List (LB × LB)} {X : Nat → Value} {h : LK} (y : Nat × Int × List (LB × LB)) {th : LA} {sg : List (Nat × Nat)} (ho : ∀ a' r', (a', r') ∈ h → aS (BT z nm i O X) a' r') (hy : gQ z nm y) (lt : mA z nm y < mA z nm (1, i, O)) (ht : bN (BT z nm i O X) (sQ z nm y X) th) (run : sF h .normal th sg 424 (mb y) (qt y) = true) : jN z nm E' x' e' h' (1, i, O) X :=
 bm.next (tb := aR h) (L := []) (f := 3000) y ((ab _ _).hyps ho) (bU.nil _) rfl hy lt ht run
theorem lvDp3_1 {z : List (LB × LB)} {nm : LB} {i : Int} {O : List (LB × LB)} {X : Nat → Value} {h : LK} {th : LA} {sg : List (Nat × Nat)} (hne : eK x' .normal = false) (ho : ∀ a' r', (a', r') ∈ h → aS (BT z nm i O X) a' r') (ht : bN (BT z nm i O X) E' th) (run : sF h x' th sg 463 e' h' = true) : jN z nm E' x' e' h' (1, i, O) X :=
 bm.leave (tb := aR h) (L := []) (f := 3000) ((ab _ _).hyps ho) (bU.nil _) rfl hne ht run
def EI : LK := [(.rl (.x 2000000) 2, .x 3), (.bin .lss (.x 1) (.x 3), .b true), (.el (.x 2000000) (.x 1) 2 0, .x 4), (.call 41 [.x 4], .x 5), (.call 41 [.x 0], .x 6), (.bin .neq (.x 5) (.x 6), .b false), (.bin .add (.x 1) (I6 1), .x 7)]
theorem runDp3_p0 : sG EI .normal [(0, .x 0), (1, .x 7), (2000000, .x 2000000)] [] 424 E4 EY = true := by kernel_rfl
def EH : LK := [(.rl (.x 2000000) 2, .x 9), (.bin .lss (.x 1) (.x 9), .b false)]
theorem runDp3_p1 : sG EH (.exit 0) [(2000000, .x 2000000)] [] 463 [(5, .bO)] [(3, .r 2000000 37 2 true)] = true := by kernel_rfl
def EG : LK := [(.rn, .x 2000003), (.rl (.x 2000000) 2, .x 11), (.bin .lss (.x 1) (.x 11), .b true), (.el (.x 2000000) (.x 1) 2 0, .x 12), (.call 41 [.x 12], .x 13), (.call 41 [.x 0], .x 14), (.bin .neq (.x 13) (.x 14), .b true), (.el (.x 2000000) (.x 1) 2 1, .x 15), (.ra (.x 2000003) [.x 12, .x 15], .x 2000004), (.rf (.x 2000004) 2 32, .b true), (.bin .add (.x 1) (I6 1), .x 16)]
theorem runDp3_p2 : sG EG .normal [(0, .x 0), (1, .x 16), (2000000, .x 2000000), (2000001, .x 2000004)] [(423, 425)] 424 rN qs = true := by kernel_rfl
def EF : LK := [(.rl (.x 2000000) 2, .x 3), (.bin .lss (.x 1) (.x 3), .b true), (.el (.x 2000000) (.x 1) 2 0, .x 4), (.call 41 [.x 4], .x 5), (.call 41 [.x 0], .x 6), (.bin .neq (.x 5) (.x 6), .b false), (.bin .add (.x 1) (I6 1), .x 7)]
theorem runDp3_p3 : sF EF .normal [(0, .x 0), (1, .x 7), (2000000, .x 2000000), (2000001, .x 2000001)] [(423, 423)] 424 rN qs = true := by kernel_rfl
def EE : LK := [(.rl (.x 2000000) 2, .x 9), (.bin .lss (.x 1) (.x 9), .b false)]
theorem runDp3_p4 : sF EE (.exit 0) [(2000000, .x 2000000), (2000001, .x 2000001)] [(423, 423)] 463 [(5, .sr 423)] [(3, .r 2000000 37 2 true), (423, .r 2000001 37 2 false)] = true := by kernel_rfl
def ED : LK := [(.rl (.x 2000000) 2, .x 11), (.bin .lss (.x 1) (.x 11), .b true), (.el (.x 2000000) (.x 1) 2 0, .x 12), (.call 41 [.x 12], .x 13), (.call 41 [.x 0], .x 14), (.bin .neq (.x 13) (.x 14), .b true), (.el (.x 2000000) (.x 1) 2 1, .x 15), (.ra (.x 2000001) [.x 12, .x 15], .x 2000005), (.rf (.x 2000005) 2 32, .b true), (.bin .add (.x 1) (I6 1), .x 16)]
theorem runDp3_p5 : sF ED .normal [(0, .x 0), (1, .x 16), (2000000, .x 2000000), (2000001, .x 2000005)] [(423, 425)] 424 rN qs = true := by kernel_rfl
section
variable {z : List (LB × LB)} {nm : LB} {i : Int} {O : List (LB × LB)} {X : Nat → Value}
theorem aM1 (hI : gQ z nm (0, i, O)) (h0 : i < (z.length : Int)) (h1 : (aj ((aU z i.toNat).1)) = (aj nm)) : jN z nm E' x' e' h' (0, i, O) X := by
 obtain ⟨i0, i1, i2, i3, i4, i5, i6, i7, it⟩ := nf z nm 0 i O hI
 have h6 := eX i4 i0 (by omega)
 have hO := congrArg List.length i5
 have hO2 := gI nm (z.take i.toNat)
 have hO3 : (z.take i.toNat).length ≤ z.length := by rw [List.length_take]; omega
 have := eW (l := z) (by assumption) i.toNat
 have : (aj ((aU z i.toNat).1)).length = ((aU z i.toNat).1).length := List.length_map ..
 have : (aj nm).length = nm.length := List.length_map ..
 refine aR4 (h := EI) (0, i + 1, ([] : List (LB × LB))) ?_ (oD ⟨by omega, by omega, i2, i3, i4, by rw [AZ (by omega) (by omega) (by assumption)]; exact (i6 (by omega)).symm.trans i5, fun _ => rfl, by omega, by omega⟩) (by show z.length - (i + 1).toNat < z.length - i.toNat; omega) (aW (v := St' nm) (c8 (b := ((i + 1))) rfl rfl (by omega) (aW (v := aN aM z) (ao)))) runDp3_p0
 unfold EI
 exact hc (cK bH (aA rfl) (aF rfl) (by first | omega | (simp <;> omega))) <|hc dO <|hc (cY (j := i.toNat) (d := ([], [])) bH (by decide) (aA rfl) (aA rfl) (aF rfl) (by omega) (by omega) rfl) <|hc (ew (s := (aU z i.toNat).1) (aA rfl) (aF rfl)) <|hc (ew (s := nm) (aA rfl) (aF rfl)) <|hc (ky (aA rfl) (aA rfl) (bnF (by first | exact decide_eq_true rfl | exact decide_eq_true ‹_› | exact decide_eq_false ‹_›))) <|hc cQ <|hnil
theorem aM0 (hI : gQ z nm (0, i, O)) (h0 : i < (z.length : Int)) (h1 : ¬ ((aj ((aU z i.toNat).1)) = (aj nm))) : jN z nm E' x' e' h' (0, i, O) X := by
 obtain ⟨i0, i1, i2, i3, i4, i5, i6, i7, it⟩ := nf z nm 0 i O hI
 have h6 := eX i4 i0 (by omega)
 have hO := congrArg List.length i5
 have hO2 := gI nm (z.take i.toNat)
 have hO3 : (z.take i.toNat).length ≤ z.length := by rw [List.length_take]; omega
 have := eW (l := z) (by assumption) i.toNat
 have : (aj ((aU z i.toNat).1)).length = ((aU z i.toNat).1).length := List.length_map ..
 have : (aj nm).length = nm.length := List.length_map ..
 refine aR4 (h := EG) (1, i + 1, (([] : List (LB × LB)) ++ [((aU z i.toNat).1, (aU z i.toNat).2)])) ?_ (oD ⟨by omega, by omega, i2, i3, i4, by rw [AY (by omega) (by omega) (by assumption), ← i5, i6 (by omega)], by omega, fun _ => by simp, by omega⟩) (by show z.length - (i + 1).toNat < z.length - i.toNat; omega) (aW (v := St' nm) (c8 (b := ((i + 1))) rfl rfl (by omega) (aW (v := aN aM z) (aW (v := aN aM (([] : List (LB × LB)) ++ [((aU z i.toNat).1, (aU z i.toNat).2)])) (ao))))) runDp3_p2
 unfold EG
 exact hc (eH (aF rfl)) <|hc (cK bH (aA rfl) (aF rfl) (by first | omega | (simp <;> omega))) <|hc dO <|hc (cY (j := i.toNat) (d := ([], [])) bH (by decide) (aA rfl) (aA rfl) (aF rfl) (by omega) (by omega) rfl) <|hc (ew (s := (aU z i.toNat).1) (aA rfl) (aF rfl)) <|hc (ew (s := nm) (aA rfl) (aF rfl)) <|hc (ky (aA rfl) (aA rfl) (bnT (by first | exact decide_eq_true rfl | exact decide_eq_true ‹_› | exact decide_eq_false ‹_›))) <|hc (cY (j := i.toNat) (d := ([], [])) bH (by decide) (aA rfl) (aA rfl) (aF rfl) (by omega) (by omega) rfl) <|hc (xK (f := aM) (l := ([] : List (LB × LB))) (a := ((aU z i.toNat).1, (aU z i.toNat).2)) (aA rfl) (xR (aA rfl) (aA rfl)) (aF rfl)) <|hc (gm bH (aA rfl) (by first | omega | (simp <;> omega)) (by first | omega | (simp <;> omega))) <|hc cQ <|hnil
theorem aL9 (hI : gQ z nm (1, i, O)) (h0 : i < (z.length : Int)) (h1 : (aj ((aU z i.toNat).1)) = (aj nm)) : jN z nm E' x' e' h' (1, i, O) X := by
 obtain ⟨i0, i1, i2, i3, i4, i5, i6, i7, it⟩ := nf z nm 1 i O hI
 have h6 := eX i4 i0 (by omega)
 have hO := congrArg List.length i5
 have hO2 := gI nm (z.take i.toNat)
 have hO3 : (z.take i.toNat).length ≤ z.length := by rw [List.length_take]; omega
 have := eW (l := z) (by assumption) i.toNat
 have : (aj ((aU z i.toNat).1)).length = ((aU z i.toNat).1).length := List.length_map ..
 have : (aj nm).length = nm.length := List.length_map ..
 refine aR3 (h := EF) (1, i + 1, O) ?_ (oD ⟨by omega, by omega, i2, i3, i4, by rw [AZ (by omega) (by omega) (by assumption)]; exact i5, by omega, i7, by omega⟩) (by show z.length - (i + 1).toNat < z.length - i.toNat; omega) (aW (v := St' nm) (c8 (b := ((i + 1))) rfl rfl (by omega) (aW (v := aN aM z) (aW (v := aN aM O) (ao))))) runDp3_p3
 unfold EF
 exact hc (cK bH (aA rfl) (aF rfl) (by first | omega | (simp <;> omega))) <|hc dO <|hc (cY (j := i.toNat) (d := ([], [])) bH (by decide) (aA rfl) (aA rfl) (aF rfl) (by omega) (by omega) rfl) <|hc (ew (s := (aU z i.toNat).1) (aA rfl) (aF rfl)) <|hc (ew (s := nm) (aA rfl) (aF rfl)) <|hc (ky (aA rfl) (aA rfl) (bnF (by first | exact decide_eq_true rfl | exact decide_eq_true ‹_› | exact decide_eq_false ‹_›))) <|hc cQ <|hnil
theorem aL8 (hI : gQ z nm (1, i, O)) (h0 : i < (z.length : Int)) (h1 : ¬ ((aj ((aU z i.toNat).1)) = (aj nm))) : jN z nm E' x' e' h' (1, i, O) X := by
 obtain ⟨i0, i1, i2, i3, i4, i5, i6, i7, it⟩ := nf z nm 1 i O hI
 have h6 := eX i4 i0 (by omega)
 have hO := congrArg List.length i5
 have hO2 := gI nm (z.take i.toNat)
 have hO3 : (z.take i.toNat).length ≤ z.length := by rw [List.length_take]; omega
 have := eW (l := z) (by assumption) i.toNat
 have : (aj ((aU z i.toNat).1)).length = ((aU z i.toNat).1).length := List.length_map ..
 have : (aj nm).length = nm.length := List.length_map ..
 refine aR3 (h := ED) (1, i + 1, (O ++ [((aU z i.toNat).1, (aU z i.toNat).2)])) ?_ (oD ⟨by omega, by omega, i2, i3, i4, by rw [AY (by omega) (by omega) (by assumption), ← i5], by omega, fun _ => by simp, by omega⟩) (by show z.length - (i + 1).toNat < z.length - i.toNat; omega) (aW (v := St' nm) (c8 (b := ((i + 1))) rfl rfl (by omega) (aW (v := aN aM z) (aW (v := aN aM (O ++ [((aU z i.toNat).1, (aU z i.toNat).2)])) (ao))))) runDp3_p5
 unfold ED
 exact hc (cK bH (aA rfl) (aF rfl) (by first | omega | (simp <;> omega))) <|hc dO <|hc (cY (j := i.toNat) (d := ([], [])) bH (by decide) (aA rfl) (aA rfl) (aF rfl) (by omega) (by omega) rfl) <|hc (ew (s := (aU z i.toNat).1) (aA rfl) (aF rfl)) <|hc (ew (s := nm) (aA rfl) (aF rfl)) <|hc (ky (aA rfl) (aA rfl) (bnT (by first | exact decide_eq_true rfl | exact decide_eq_true ‹_› | exact decide_eq_false ‹_›))) <|hc (cY (j := i.toNat) (d := ([], [])) bH (by decide) (aA rfl) (aA rfl) (aF rfl) (by omega) (by omega) rfl) <|hc (xK (f := aM) (l := O) (a := ((aU z i.toNat).1, (aU z i.toNat).2)) (aA rfl) (xR (aA rfl) (aA rfl)) (aF rfl)) <|hc (gm bH (aA rfl) (by first | omega | (simp <;> omega)) (by first | omega | (simp <;> omega))) <|hc cQ <|hnil
end
def aM5 (z : List (LB × LB)) (nm : LB) : List Value := []
def roEDp3_0 (z : List (LB × LB)) (nm : LB) : List Value := [aN aM z]
noncomputable def EDp3_0 (z : List (LB × LB)) (nm : LB) : Cx := cx (ay (aM5 z nm) (rX (roEDp3_0 z nm) (fun _ => .bool true))) (az (aT (l := aM5 z nm) rfl)) 3 aG aJ
theorem roundsDp3_0 (z : List (LB × LB)) (nm : LB) (x0 : ba nm z = []) (st : Nat × Int × List (LB × LB)) (X : Nat → Value) (hI : gQ z nm st) : jN z nm (EDp3_0 z nm) (.exit 0) [(5, .bO)] [(3, .r 2000000 37 2 true)] st X := by
 obtain ⟨tag, i, O⟩ := st
 have hI0 := hI
 obtain ⟨i0, i1, i2, i3, i4, i5, i6, i7, it⟩ := nf z nm tag i O hI
 rcases (show tag = 0 ∨ tag = 1 from by omega) with rfl | rfl
 ·by_cases h0 : i < (z.length : Int)
  ·by_cases h1 : (aj ((aU z i.toNat).1)) = (aj nm)
   ·exact aM1 hI0 h0 h1
   ·exact aM0 hI0 h0 h1
  ·have gG := lT (nm := nm) (z := z) (i := i) (by omega) (by omega)
   refine lvDp3_0 (h := EH) rfl ?_ (aW (v := aN aM z) (ao)) runDp3_p1
   unfold EH
   exact hc (cK bH (aA rfl) (aF rfl) (by first | omega | (simp <;> omega))) <|hc iJ <|hnil
 ·by_cases h0 : i < (z.length : Int)
  ·by_cases h1 : (aj ((aU z i.toNat).1)) = (aj nm)
   ·exact aL9 hI0 h0 h1
   ·exact aL8 hI0 h0 h1
  ·exfalso; have gG := lT (nm := nm) (z := z) (i := i) (by omega) (by omega); have hL := i7 (by omega); rw [i5, gG, x0] at hL; simp at hL
theorem lfOkDp3_0 (z : List (LB × LB)) (nm : LB) (x0 : ba nm z = []) : cI (cx nu one 3 aG aJ) (EDp3_0 z nm) re iu 30 (.exit 0) 3 423 424 463 mb qt [(5, .bO)] [(3, .r 2000000 37 2 true)] (gQ z nm) (sQ z nm) :=
 fb (mA z nm) (fun _ _ => rfl) (fun _ _ => rfl) (fun _ _ => rfl) (fun st X t ht => fX.trans (fV ((by decide : ∀ t, t ∈ iu → t < 1000000) t ht))) rfl rfl rfl ebDp3 rfl rfl (roundsDp3_0 z nm x0)
def aM4 (z : List (LB × LB)) (nm : LB) : List Value := []
def roEDp3_1 (z : List (LB × LB)) (nm : LB) : List Value := [aN aM z, aN aM (ba nm z)]
noncomputable def EDp3_1 (z : List (LB × LB)) (nm : LB) : Cx := cx (ay (aM4 z nm) (rX (roEDp3_1 z nm) (fun _ => .bool true))) (az (aT (l := aM4 z nm) rfl)) 3 aG aJ
theorem roundsDp3_1 (z : List (LB × LB)) (nm : LB) (x0 : 1 ≤ (ba nm z).length) (st : Nat × Int × List (LB × LB)) (X : Nat → Value) (hI : gQ z nm st) : jN z nm (EDp3_1 z nm) (.exit 0) [(5, .sr 423)] [(3, .r 2000000 37 2 true), (423, .r 2000001 37 2 false)] st X := by
 obtain ⟨tag, i, O⟩ := st
 have hI0 := hI
 obtain ⟨i0, i1, i2, i3, i4, i5, i6, i7, it⟩ := nf z nm tag i O hI
 rcases (show tag = 0 ∨ tag = 1 from by omega) with rfl | rfl
 ·by_cases h0 : i < (z.length : Int)
  ·by_cases h1 : (aj ((aU z i.toNat).1)) = (aj nm)
   ·exact aM1 hI0 h0 h1
   ·exact aM0 hI0 h0 h1
  ·exfalso; have gG := lT (nm := nm) (z := z) (i := i) (by omega) (by omega); have hO := i6 (by omega); rw [hO, gG] at i5; rw [← i5] at x0; simp at x0
 ·by_cases h0 : i < (z.length : Int)
  ·by_cases h1 : (aj ((aU z i.toNat).1)) = (aj nm)
   ·exact aL9 hI0 h0 h1
   ·exact aL8 hI0 h0 h1
  ·have gG := lT (nm := nm) (z := z) (i := i) (by omega) (by omega)
   refine lvDp3_1 (h := EE) rfl ?_ (aW (v := aN aM z) (bn (v := aN aM O) (u := aN aM (ba nm z)) rfl rfl (congrArg (aN aM) (i5.trans gG)) (ao))) runDp3_p4
   unfold EE
   exact hc (cK bH (aA rfl) (aF rfl) (by first | omega | (simp <;> omega))) <|hc iJ <|hnil
theorem lfOkDp3_1 (z : List (LB × LB)) (nm : LB) (x0 : 1 ≤ (ba nm z).length) : cI (cx nu one 3 aG aJ) (EDp3_1 z nm) re iu 30 (.exit 0) 3 423 424 463 mb qt [(5, .sr 423)] [(3, .r 2000000 37 2 true), (423, .r 2000001 37 2 false)] (gQ z nm) (sQ z nm) :=
 fb (mA z nm) (fun _ _ => rfl) (fun _ _ => rfl) (fun _ _ => rfl) (fun st X t ht => fX.trans (fV ((by decide : ∀ t, t ∈ iu → t < 1000000) t ht))) rfl rfl rfl ebDp3 rfl rfl (roundsDp3_1 z nm x0)
noncomputable def rZ : Code := fa (Tryd.f31.body.getD .skip) 0
theorem aN4 : fH (ct (Tryd.f31.body.getD .skip)) 3 0 0 = true := by kernel_rfl
def ir : List Nat := []
def E3 : LA := [(1, .x 0), (5, .bO), (0, .sr 403), (6, .x 1)]
def EX : LE := [(403, .r 2000000 37 2 false)]
def wE (z : List (LB × LB)) (nm : LB) (i : Int) (O : List (LB × LB)) : List Value := [St' nm, .int .i64 (i), St' ([] : LB), .int .i64 ((z.length : Int)), St' ((aU z i.toNat).1), St' (aj ((aU z i.toNat).1)), St' (aj nm), .int .i64 (i + 1), St' ([] : LB), .int .i64 ((z.length : Int)), St' ([] : LB), .int .i64 ((z.length : Int)), St' ((aU z i.toNat).1), St' (aj ((aU z i.toNat).1)), St' (aj nm), St' ((aU z i.toNat).2), .int .i64 (i + 1)]
def aF2 (z : List (LB × LB)) (nm : LB) (i : Int) (O : List (LB × LB)) : List Value := [aN aM z, bJ ([] : List LB), bJ ([] : List LB), bJ ([] : List LB), aN aM (([] : List (LB × LB)) ++ [((aU z i.toNat).1, (aU z i.toNat).2)])]
def rM : LA := [(1, .x 0), (5, .sr 423), (0, .sr 403), (6, .x 1)]
def qp : LE := [(403, .r 2000000 37 2 false), (423, .r 2000001 37 2 false)]
def wD (z : List (LB × LB)) (nm : LB) (i : Int) (O : List (LB × LB)) : List Value := [St' nm, .int .i64 (i), St' ([] : LB), .int .i64 ((z.length : Int)), St' ((aU z i.toNat).1), St' (aj ((aU z i.toNat).1)), St' (aj nm), .int .i64 (i + 1), St' ([] : LB), .int .i64 ((z.length : Int)), St' ([] : LB), .int .i64 ((z.length : Int)), St' ((aU z i.toNat).1), St' (aj ((aU z i.toNat).1)), St' (aj nm), St' ((aU z i.toNat).2), .int .i64 (i + 1)]
def aF1 (z : List (LB × LB)) (nm : LB) (i : Int) (O : List (LB × LB)) : List Value := [aN aM z, aN aM O, bJ ([] : List LB), bJ ([] : List LB), bJ ([] : List LB), aN aM (O ++ [((aU z i.toNat).1, (aU z i.toNat).2)])]
def ma (st : Nat × Int × List (LB × LB)) : LA := if st.1 = 0 then E3 else rM
def qq (st : Nat × Int × List (LB × LB)) : LE := if st.1 = 0 then EX else qp
def CZ (z : List (LB × LB)) (nm : LB) (st : Nat × Int × List (LB × LB)) : List Value := if st.1 = 0 then wE z nm (st.2.1) (st.2.2) else wD z nm (st.2.1) (st.2.2)
def roDp403 (z : List (LB × LB)) (nm : LB) (st : Nat × Int × List (LB × LB)) : List Value := if st.1 = 0 then aF2 z nm (st.2.1) (st.2.2) else aF1 z nm (st.2.1) (st.2.2)
theorem onDp403 (z : List (LB × LB)) (nm : LB) (st : Nat × Int × List (LB × LB)) : ∀ j, (aY (CZ z nm st) j).oneCell' = true := by
 intro j
 unfold CZ
 by_cases g0 : st.1 = 0
 ·rw [if_pos g0]; exact aT (l := wE z nm (st.2.1) (st.2.2)) rfl j
 rw [if_neg g0]
 exact aT (l := wD z nm (st.2.1) (st.2.2)) rfl j
theorem aZ1 (st : Nat × Int × List (LB × LB)) : (dG (ma st) && eG ir) = true := by
 unfold ma
 by_cases g0 : st.1 = 0
 ·rw [if_pos g0]; rfl
 rw [if_neg g0]
 rfl
noncomputable def sP (z : List (LB × LB)) (nm : LB) (st : Nat × Int × List (LB × LB)) (X : Nat → Value) : Cx := cx (ay (CZ z nm st) (rX (roDp403 z nm st) X)) (az (onDp403 z nm st)) 3 aG aJ
abbrev Ft (z : List (LB × LB)) (nm : LB) (tag : Nat) (i : Int) (O : List (LB × LB)) : Prop := (0 ≤ i) ∧ (i ≤ (z.length : Int)) ∧ (z.length ≤ 40 ∧ nm.length ≤ 100) ∧ (∀ q, q ∈ z → cf q) ∧ (okB z) ∧ (O = ba nm (z.take i.toNat)) ∧ (tag = 0 → O = []) ∧ (tag = 1 → 1 ≤ O.length) ∧ (tag < 2)
def gP (z : List (LB × LB)) (nm : LB) (st : Nat × Int × List (LB × LB)) : Prop := Ft z nm st.1 (st.2.1) (st.2.2)
theorem oC {z : List (LB × LB)} {nm : LB} {tag : Nat} {i : Int} {O : List (LB × LB)} (h : Ft z nm tag i O) : gP z nm (tag, i, O) := h
theorem nd (z : List (LB × LB)) (nm : LB) (tag : Nat) (i : Int) (O : List (LB × LB)) (h : gP z nm (tag, i, O)) : Ft z nm tag i O := h
def l9 (z : List (LB × LB)) (nm : LB) (st : Nat × Int × List (LB × LB)) : Nat := (z.length - (st.2.1).toNat)
abbrev jM (z : List (LB × LB)) (nm : LB) (E' : Cx) (ex' : Ex) (epx' : LA) (hpx' : LE) (st : Nat × Int × List (LB × LB)) (X : Nat → Value) : Prop := bm E' rZ ir 30 ex' 3 423 424 463 ma qq epx' hpx' (gP z nm) (l9 z nm) (sP z nm) st X
noncomputable abbrev BS (z : List (LB × LB)) (nm : LB) (i : Int) (O : List (LB × LB)) (X : Nat → Value) : Cx := cx (ay (wE z nm i O) (rX (aF2 z nm i O) X)) (az (aT (l := wE z nm i O) rfl)) 3 aG aJ
noncomputable abbrev sE (h : LK) (x : Ex) (th : LA) (sg : List (Nat × Nat)) (m : Nat) (ep : LA) (hp : LE) : Bool := cr (code (aR h) 3000 [] rZ (cN (cV E3 ir) 30) ⟨bA EX .leaf, 424, 0, 0⟩) x ir 30 463 th sg 423 m ep hp
theorem aE8 {z : List (LB × LB)} {nm : LB} {i : Int} {O : List (LB × LB)} {X : Nat → Value} {h : LK} (y : Nat × Int × List (LB × LB)) {th : LA} {sg : List (Nat × Nat)} (ho : ∀ a' r', (a', r') ∈ h → aS (BS z nm i O X) a' r') (hy : gP z nm y) (lt : l9 z nm y < l9 z nm (0, i, O)) (ht : bN (BS z nm i O X) (sP z nm y X) th) (run : sE h .normal th sg 424 (ma y) (qq y) = true) : jM z nm E' x' e' h' (0, i, O) X :=
 bm.next (tb := aR h) (L := []) (f := 3000) y ((ab _ _).hyps ho) (bU.nil _) rfl hy lt ht run
theorem lvDp403_0 {z : List (LB × LB)} {nm : LB} {i : Int} {O : List (LB × LB)} {X : Nat → Value} {h : LK} {th : LA} {sg : List (Nat × Nat)} (hne : eK x' .normal = false) (ho : ∀ a' r', (a', r') ∈ h → aS (BS z nm i O X) a' r') (ht : bN (BS z nm i O X) E' th) (run : sE h x' th sg 463 e' h' = true) : jM z nm E' x' e' h' (0, i, O) X :=
 bm.leave (tb := aR h) (L := []) (f := 3000) ((ab _ _).hyps ho) (bU.nil _) rfl hne ht run
noncomputable abbrev BR (z : List (LB × LB)) (nm : LB) (i : Int) (O : List (LB × LB)) (X : Nat → Value) : Cx := cx (ay (wD z nm i O) (rX (aF1 z nm i O) X)) (az (aT (l := wD z nm i O) rfl)) 3 aG aJ
noncomputable abbrev sD (h : LK) (x : Ex) (th : LA) (sg : List (Nat × Nat)) (m : Nat) (ep : LA) (hp : LE) : Bool := cr (code (aR h) 3000 [] rZ (cN (cV rM ir) 30) ⟨bA qp .leaf, 424, 0, 0⟩) x ir 30 463 th sg 423 m ep hp
theorem aE7 {z : List (LB × LB)} {nm : LB} {i : Int} {O : List (LB × LB)} {X : Nat → Value} {h : LK} (y : Nat × Int × List (LB × LB)) {th : LA} {sg : List (Nat × Nat)} (ho : ∀ a' r', (a', r') ∈ h → aS (BR z nm i O X) a' r') (hy : gP z nm y) (lt : l9 z nm y < l9 z nm (1, i, O)) (ht : bN (BR z nm i O X) (sP z nm y X) th) (run : sD h .normal th sg 424 (ma y) (qq y) = true) : jM z nm E' x' e' h' (1, i, O) X :=
 bm.next (tb := aR h) (L := []) (f := 3000) y ((ab _ _).hyps ho) (bU.nil _) rfl hy lt ht run
theorem lvDp403_1 {z : List (LB × LB)} {nm : LB} {i : Int} {O : List (LB × LB)} {X : Nat → Value} {h : LK} {th : LA} {sg : List (Nat × Nat)} (hne : eK x' .normal = false) (ho : ∀ a' r', (a', r') ∈ h → aS (BR z nm i O X) a' r') (ht : bN (BR z nm i O X) E' th) (run : sD h x' th sg 463 e' h' = true) : jM z nm E' x' e' h' (1, i, O) X :=
 bm.leave (tb := aR h) (L := []) (f := 3000) ((ab _ _).hyps ho) (bU.nil _) rfl hne ht run
def EC : LK := [(.rl (.x 2000000) 2, .x 3), (.bin .lss (.x 1) (.x 3), .b true), (.el (.x 2000000) (.x 1) 2 0, .x 4), (.call 41 [.x 4], .x 5), (.call 41 [.x 0], .x 6), (.bin .neq (.x 5) (.x 6), .b false), (.bin .add (.x 1) (I6 1), .x 7)]
theorem runDp403_p0 : sE EC .normal [(0, .x 0), (1, .x 7), (2000000, .x 2000000)] [] 424 E3 EX = true := by kernel_rfl
def EB : LK := [(.rl (.x 2000000) 2, .x 9), (.bin .lss (.x 1) (.x 9), .b false)]
theorem runDp403_p1 : sE EB (.exit 0) [(2000000, .x 2000000)] [] 463 [(5, .bO)] [(403, .r 2000000 37 2 false)] = true := by kernel_rfl
def EA : LK := [(.rn, .x 2000003), (.rl (.x 2000000) 2, .x 11), (.bin .lss (.x 1) (.x 11), .b true), (.el (.x 2000000) (.x 1) 2 0, .x 12), (.call 41 [.x 12], .x 13), (.call 41 [.x 0], .x 14), (.bin .neq (.x 13) (.x 14), .b true), (.el (.x 2000000) (.x 1) 2 1, .x 15), (.ra (.x 2000003) [.x 12, .x 15], .x 2000004), (.rf (.x 2000004) 2 32, .b true), (.bin .add (.x 1) (I6 1), .x 16)]
theorem runDp403_p2 : sE EA .normal [(0, .x 0), (1, .x 16), (2000000, .x 2000000), (2000001, .x 2000004)] [(423, 425)] 424 rM qp = true := by kernel_rfl
def D9 : LK := [(.rl (.x 2000000) 2, .x 3), (.bin .lss (.x 1) (.x 3), .b true), (.el (.x 2000000) (.x 1) 2 0, .x 4), (.call 41 [.x 4], .x 5), (.call 41 [.x 0], .x 6), (.bin .neq (.x 5) (.x 6), .b false), (.bin .add (.x 1) (I6 1), .x 7)]
theorem runDp403_p3 : sD D9 .normal [(0, .x 0), (1, .x 7), (2000000, .x 2000000), (2000001, .x 2000001)] [(423, 423)] 424 rM qp = true := by kernel_rfl
def D8 : LK := [(.rl (.x 2000000) 2, .x 9), (.bin .lss (.x 1) (.x 9), .b false)]
theorem runDp403_p4 : sD D8 (.exit 0) [(2000000, .x 2000000), (2000001, .x 2000001)] [(423, 423)] 463 [(5, .sr 423)] [(403, .r 2000000 37 2 false), (423, .r 2000001 37 2 false)] = true := by kernel_rfl
def D7 : LK := [(.rl (.x 2000000) 2, .x 11), (.bin .lss (.x 1) (.x 11), .b true), (.el (.x 2000000) (.x 1) 2 0, .x 12), (.call 41 [.x 12], .x 13), (.call 41 [.x 0], .x 14), (.bin .neq (.x 13) (.x 14), .b true), (.el (.x 2000000) (.x 1) 2 1, .x 15), (.ra (.x 2000001) [.x 12, .x 15], .x 2000005), (.rf (.x 2000005) 2 32, .b true), (.bin .add (.x 1) (I6 1), .x 16)]
theorem runDp403_p5 : sD D7 .normal [(0, .x 0), (1, .x 16), (2000000, .x 2000000), (2000001, .x 2000005)] [(423, 425)] 424 rM qp = true := by kernel_rfl
section
variable {z : List (LB × LB)} {nm : LB} {i : Int} {O : List (LB × LB)} {X : Nat → Value}
theorem aC8 (hI : gP z nm (0, i, O)) (h0 : i < (z.length : Int)) (h1 : (aj ((aU z i.toNat).1)) = (aj nm)) : jM z nm E' x' e' h' (0, i, O) X := by
 obtain ⟨i0, i1, i2, i3, i4, i5, i6, i7, it⟩ := nd z nm 0 i O hI
 have h6 := eX i4 i0 (by omega)
 have hO := congrArg List.length i5
 have hO2 := gI nm (z.take i.toNat)
 have hO3 : (z.take i.toNat).length ≤ z.length := by rw [List.length_take]; omega
 have := eW (l := z) (by assumption) i.toNat
 have : (aj ((aU z i.toNat).1)).length = ((aU z i.toNat).1).length := List.length_map ..
 have : (aj nm).length = nm.length := List.length_map ..
 refine aE8 (h := EC) (0, i + 1, ([] : List (LB × LB))) ?_ (oC ⟨by omega, by omega, i2, i3, i4, by rw [AZ (by omega) (by omega) (by assumption)]; exact (i6 (by omega)).symm.trans i5, fun _ => rfl, by omega, by omega⟩) (by show z.length - (i + 1).toNat < z.length - i.toNat; omega) (aW (v := St' nm) (c8 (b := ((i + 1))) rfl rfl (by omega) (aW (v := aN aM z) (ao)))) runDp403_p0
 unfold EC
 exact hc (cK bH (aA rfl) (aF rfl) (by first | omega | (simp <;> omega))) <|hc dO <|hc (cY (j := i.toNat) (d := ([], [])) bH (by decide) (aA rfl) (aA rfl) (aF rfl) (by omega) (by omega) rfl) <|hc (ew (s := (aU z i.toNat).1) (aA rfl) (aF rfl)) <|hc (ew (s := nm) (aA rfl) (aF rfl)) <|hc (ky (aA rfl) (aA rfl) (bnF (by first | exact decide_eq_true rfl | exact decide_eq_true ‹_› | exact decide_eq_false ‹_›))) <|hc cQ <|hnil
theorem aC7 (hI : gP z nm (0, i, O)) (h0 : i < (z.length : Int)) (h1 : ¬ ((aj ((aU z i.toNat).1)) = (aj nm))) : jM z nm E' x' e' h' (0, i, O) X := by
 obtain ⟨i0, i1, i2, i3, i4, i5, i6, i7, it⟩ := nd z nm 0 i O hI
 have h6 := eX i4 i0 (by omega)
 have hO := congrArg List.length i5
 have hO2 := gI nm (z.take i.toNat)
 have hO3 : (z.take i.toNat).length ≤ z.length := by rw [List.length_take]; omega
 have := eW (l := z) (by assumption) i.toNat
 have : (aj ((aU z i.toNat).1)).length = ((aU z i.toNat).1).length := List.length_map ..
 have : (aj nm).length = nm.length := List.length_map ..
 refine aE8 (h := EA) (1, i + 1, (([] : List (LB × LB)) ++ [((aU z i.toNat).1, (aU z i.toNat).2)])) ?_ (oC ⟨by omega, by omega, i2, i3, i4, by rw [AY (by omega) (by omega) (by assumption), ← i5, i6 (by omega)], by omega, fun _ => by simp, by omega⟩) (by show z.length - (i + 1).toNat < z.length - i.toNat; omega) (aW (v := St' nm) (c8 (b := ((i + 1))) rfl rfl (by omega) (aW (v := aN aM z) (aW (v := aN aM (([] : List (LB × LB)) ++ [((aU z i.toNat).1, (aU z i.toNat).2)])) (ao))))) runDp403_p2
 unfold EA
 exact hc (eH (aF rfl)) <|hc (cK bH (aA rfl) (aF rfl) (by first | omega | (simp <;> omega))) <|hc dO <|hc (cY (j := i.toNat) (d := ([], [])) bH (by decide) (aA rfl) (aA rfl) (aF rfl) (by omega) (by omega) rfl) <|hc (ew (s := (aU z i.toNat).1) (aA rfl) (aF rfl)) <|hc (ew (s := nm) (aA rfl) (aF rfl)) <|hc (ky (aA rfl) (aA rfl) (bnT (by first | exact decide_eq_true rfl | exact decide_eq_true ‹_› | exact decide_eq_false ‹_›))) <|hc (cY (j := i.toNat) (d := ([], [])) bH (by decide) (aA rfl) (aA rfl) (aF rfl) (by omega) (by omega) rfl) <|hc (xK (f := aM) (l := ([] : List (LB × LB))) (a := ((aU z i.toNat).1, (aU z i.toNat).2)) (aA rfl) (xR (aA rfl) (aA rfl)) (aF rfl)) <|hc (gm bH (aA rfl) (by first | omega | (simp <;> omega)) (by first | omega | (simp <;> omega))) <|hc cQ <|hnil
theorem aC6 (hI : gP z nm (1, i, O)) (h0 : i < (z.length : Int)) (h1 : (aj ((aU z i.toNat).1)) = (aj nm)) : jM z nm E' x' e' h' (1, i, O) X := by
 obtain ⟨i0, i1, i2, i3, i4, i5, i6, i7, it⟩ := nd z nm 1 i O hI
 have h6 := eX i4 i0 (by omega)
 have hO := congrArg List.length i5
 have hO2 := gI nm (z.take i.toNat)
 have hO3 : (z.take i.toNat).length ≤ z.length := by rw [List.length_take]; omega
 have := eW (l := z) (by assumption) i.toNat
 have : (aj ((aU z i.toNat).1)).length = ((aU z i.toNat).1).length := List.length_map ..
 have : (aj nm).length = nm.length := List.length_map ..
 refine aE7 (h := D9) (1, i + 1, O) ?_ (oC ⟨by omega, by omega, i2, i3, i4, by rw [AZ (by omega) (by omega) (by assumption)]; exact i5, by omega, i7, by omega⟩) (by show z.length - (i + 1).toNat < z.length - i.toNat; omega) (aW (v := St' nm) (c8 (b := ((i + 1))) rfl rfl (by omega) (aW (v := aN aM z) (aW (v := aN aM O) (ao))))) runDp403_p3
 unfold D9
 exact hc (cK bH (aA rfl) (aF rfl) (by first | omega | (simp <;> omega))) <|hc dO <|hc (cY (j := i.toNat) (d := ([], [])) bH (by decide) (aA rfl) (aA rfl) (aF rfl) (by omega) (by omega) rfl) <|hc (ew (s := (aU z i.toNat).1) (aA rfl) (aF rfl)) <|hc (ew (s := nm) (aA rfl) (aF rfl)) <|hc (ky (aA rfl) (aA rfl) (bnF (by first | exact decide_eq_true rfl | exact decide_eq_true ‹_› | exact decide_eq_false ‹_›))) <|hc cQ <|hnil
theorem aC5 (hI : gP z nm (1, i, O)) (h0 : i < (z.length : Int)) (h1 : ¬ ((aj ((aU z i.toNat).1)) = (aj nm))) : jM z nm E' x' e' h' (1, i, O) X := by
 obtain ⟨i0, i1, i2, i3, i4, i5, i6, i7, it⟩ := nd z nm 1 i O hI
 have h6 := eX i4 i0 (by omega)
 have hO := congrArg List.length i5
 have hO2 := gI nm (z.take i.toNat)
 have hO3 : (z.take i.toNat).length ≤ z.length := by rw [List.length_take]; omega
 have := eW (l := z) (by assumption) i.toNat
 have : (aj ((aU z i.toNat).1)).length = ((aU z i.toNat).1).length := List.length_map ..
 have : (aj nm).length = nm.length := List.length_map ..
 refine aE7 (h := D7) (1, i + 1, (O ++ [((aU z i.toNat).1, (aU z i.toNat).2)])) ?_ (oC ⟨by omega, by omega, i2, i3, i4, by rw [AY (by omega) (by omega) (by assumption), ← i5], by omega, fun _ => by simp, by omega⟩) (by show z.length - (i + 1).toNat < z.length - i.toNat; omega) (aW (v := St' nm) (c8 (b := ((i + 1))) rfl rfl (by omega) (aW (v := aN aM z) (aW (v := aN aM (O ++ [((aU z i.toNat).1, (aU z i.toNat).2)])) (ao))))) runDp403_p5
 unfold D7
 exact hc (cK bH (aA rfl) (aF rfl) (by first | omega | (simp <;> omega))) <|hc dO <|hc (cY (j := i.toNat) (d := ([], [])) bH (by decide) (aA rfl) (aA rfl) (aF rfl) (by omega) (by omega) rfl) <|hc (ew (s := (aU z i.toNat).1) (aA rfl) (aF rfl)) <|hc (ew (s := nm) (aA rfl) (aF rfl)) <|hc (ky (aA rfl) (aA rfl) (bnT (by first | exact decide_eq_true rfl | exact decide_eq_true ‹_› | exact decide_eq_false ‹_›))) <|hc (cY (j := i.toNat) (d := ([], [])) bH (by decide) (aA rfl) (aA rfl) (aF rfl) (by omega) (by omega) rfl) <|hc (xK (f := aM) (l := O) (a := ((aU z i.toNat).1, (aU z i.toNat).2)) (aA rfl) (xR (aA rfl) (aA rfl)) (aF rfl)) <|hc (gm bH (aA rfl) (by first | omega | (simp <;> omega)) (by first | omega | (simp <;> omega))) <|hc cQ <|hnil
end
def aD2 (z : List (LB × LB)) (nm : LB) : List Value := []
def roEDp403_0 (z : List (LB × LB)) (nm : LB) : List Value := [aN aM z]
noncomputable def aQ0 (z : List (LB × LB)) (nm : LB) : Cx := cx (ay (aD2 z nm) (rX (roEDp403_0 z nm) (fun _ => .bool true))) (az (aT (l := aD2 z nm) rfl)) 3 aG aJ
theorem roundsDp403_0 (z : List (LB × LB)) (nm : LB) (x0 : ba nm z = []) (st : Nat × Int × List (LB × LB)) (X : Nat → Value) (hI : gP z nm st) : jM z nm (aQ0 z nm) (.exit 0) [(5, .bO)] [(403, .r 2000000 37 2 false)] st X := by
 obtain ⟨tag, i, O⟩ := st
 have hI0 := hI
 obtain ⟨i0, i1, i2, i3, i4, i5, i6, i7, it⟩ := nd z nm tag i O hI
 rcases (show tag = 0 ∨ tag = 1 from by omega) with rfl | rfl
 ·by_cases h0 : i < (z.length : Int)
  ·by_cases h1 : (aj ((aU z i.toNat).1)) = (aj nm)
   ·exact aC8 hI0 h0 h1
   ·exact aC7 hI0 h0 h1
  ·have gG := lT (nm := nm) (z := z) (i := i) (by omega) (by omega)
   refine lvDp403_0 (h := EB) rfl ?_ (aW (v := aN aM z) (ao)) runDp403_p1
   unfold EB
   exact hc (cK bH (aA rfl) (aF rfl) (by first | omega | (simp <;> omega))) <|hc iJ <|hnil
 ·by_cases h0 : i < (z.length : Int)
  ·by_cases h1 : (aj ((aU z i.toNat).1)) = (aj nm)
   ·exact aC6 hI0 h0 h1
   ·exact aC5 hI0 h0 h1
  ·exfalso; have gG := lT (nm := nm) (z := z) (i := i) (by omega) (by omega); have hL := i7 (by omega); rw [i5, gG, x0] at hL; simp at hL
theorem lfOkDp403_0 (z : List (LB × LB)) (nm : LB) (x0 : ba nm z = []) : cI (cx nu one 3 aG aJ) (aQ0 z nm) rZ ir 30 (.exit 0) 3 423 424 463 ma qq [(5, .bO)] [(403, .r 2000000 37 2 false)] (gP z nm) (sP z nm) :=
 fb (l9 z nm) (fun _ _ => rfl) (fun _ _ => rfl) (fun _ _ => rfl) (fun st X t ht => fX.trans (fV ((by decide : ∀ t, t ∈ ir → t < 1000000) t ht))) rfl rfl rfl aZ1 rfl rfl (roundsDp403_0 z nm x0)
def aD1 (z : List (LB × LB)) (nm : LB) : List Value := []
def roEDp403_1 (z : List (LB × LB)) (nm : LB) : List Value := [aN aM z, aN aM (ba nm z)]
noncomputable def aP9 (z : List (LB × LB)) (nm : LB) : Cx := cx (ay (aD1 z nm) (rX (roEDp403_1 z nm) (fun _ => .bool true))) (az (aT (l := aD1 z nm) rfl)) 3 aG aJ
theorem roundsDp403_1 (z : List (LB × LB)) (nm : LB) (x0 : 1 ≤ (ba nm z).length) (st : Nat × Int × List (LB × LB)) (X : Nat → Value) (hI : gP z nm st) : jM z nm (aP9 z nm) (.exit 0) [(5, .sr 423)] [(403, .r 2000000 37 2 false), (423, .r 2000001 37 2 false)] st X := by
 obtain ⟨tag, i, O⟩ := st
 have hI0 := hI
 obtain ⟨i0, i1, i2, i3, i4, i5, i6, i7, it⟩ := nd z nm tag i O hI
 rcases (show tag = 0 ∨ tag = 1 from by omega) with rfl | rfl
 ·by_cases h0 : i < (z.length : Int)
  ·by_cases h1 : (aj ((aU z i.toNat).1)) = (aj nm)
   ·exact aC8 hI0 h0 h1
   ·exact aC7 hI0 h0 h1
  ·exfalso; have gG := lT (nm := nm) (z := z) (i := i) (by omega) (by omega); have hO := i6 (by omega); rw [hO, gG] at i5; rw [← i5] at x0; simp at x0
 ·by_cases h0 : i < (z.length : Int)
  ·by_cases h1 : (aj ((aU z i.toNat).1)) = (aj nm)
   ·exact aC6 hI0 h0 h1
   ·exact aC5 hI0 h0 h1
  ·have gG := lT (nm := nm) (z := z) (i := i) (by omega) (by omega)
   refine lvDp403_1 (h := D8) rfl ?_ (aW (v := aN aM z) (bn (v := aN aM O) (u := aN aM (ba nm z)) rfl rfl (congrArg (aN aM) (i5.trans gG)) (ao))) runDp403_p4
   unfold D8
   exact hc (cK bH (aA rfl) (aF rfl) (by first | omega | (simp <;> omega))) <|hc iJ <|hnil
theorem lfOkDp403_1 (z : List (LB × LB)) (nm : LB) (x0 : 1 ≤ (ba nm z).length) : cI (cx nu one 3 aG aJ) (aP9 z nm) rZ ir 30 (.exit 0) 3 423 424 463 ma qq [(5, .sr 423)] [(403, .r 2000000 37 2 false), (423, .r 2000001 37 2 false)] (gP z nm) (sP z nm) :=
 fb (l9 z nm) (fun _ _ => rfl) (fun _ _ => rfl) (fun _ _ => rfl) (fun st X t ht => fX.trans (fV ((by decide : ∀ t, t ∈ ir → t < 1000000) t ht))) rfl rfl rfl aZ1 rfl rfl (roundsDp403_1 z nm x0)
noncomputable def o7 : FI := (bc.fn.get 31).getD default
theorem AG : bc.fn.get 31 = some o7 := by kernel_rfl
theorem AF : o7.body = some (Tryd.f31.body.getD .skip) := by kernel_rfl
noncomputable def gz : FI := (bc.fn.get 12).getD default
theorem jq : bc.fn.get 12 = some gz := by kernel_rfl
theorem jG : gz.body = some (Tryd.f12.body.getD .skip) := by kernel_rfl
theorem lO : gz.body.isSome = true := by rw [jG]; rfl
theorem cfA12 : (ct (Tryd.f12.body.getD .skip)).all (fun b => !(iM (Go.AX.keyOf b) 8888888)) = true := by kernel_rfl
noncomputable def gM : Code := fa (Tryd.f12.body.getD .skip) 0
theorem kj : fH (ct (Tryd.f12.body.getD .skip)) 4 0 0 = true := by kernel_rfl
def dV : List Nat := [0, 1, 2, 3, 4]
def AR : LA := [(7, .sr 3), (8, .p 402 0), (9, I6 0)]
def zg : LE := [(402, bk 47 [.s 10 cJ, .s 17 dJ, .s 14 dX, .s 6 eD, .s 10 cg]), (3, .r 2000000 37 2 true)]
def vb (z : List (LB × LB)) (i : Int) : List Value := [St' ([] : LB), St' ([] : LB)]
def roL5_0 (z : List (LB × LB)) (i : Int) : List Value := [aN aM z, bJ ([] : List LB), aN aM z, bJ ([] : List LB), aN aM z, aN aM (ba (cR) z)]
def mZ : LA := [(7, .sr 403), (8, .p 402 0), (9, .x 0)]
def mN : LE := [(402, bk 47 [.s 10 cJ, .s 17 dJ, .s 14 dX, .s 6 eD, .s 10 cg]), (403, .r 2000000 37 2 false), (3, .r 2000001 37 2 true)]
def vZ (z : List (LB × LB)) (i : Int) : List Value := [.int .i64 (i), St' ([] : LB), St' (cq cX i), .int .i64 (i + 1), St' ([] : LB), St' (cq cX i), .int .i64 (i + 1), St' ([] : LB)]
def roL5_1 (z : List (LB × LB)) (i : Int) : List Value := [aN aM (dN z i.toNat), aN aM z, bJ ([] : List LB), aN aM (dN z i.toNat), bJ ([] : List LB), aN aM (dN z i.toNat), aN aM (ba (cq cX i) (dN z i.toNat)), bJ ([] : List LB)]
def rL : LA := [(7, .bO), (8, .p 402 0), (9, .x 0)]
def qo : LE := [(402, bk 47 [.s 10 cJ, .s 17 dJ, .s 14 dX, .s 6 eD, .s 10 cg]), (3, .r 2000000 37 2 true)]
def vY (z : List (LB × LB)) (i : Int) : List Value := [.int .i64 (i), St' ([] : LB), St' (cq cX i), .int .i64 (i + 1), St' ([] : LB)]
def roL5_2 (z : List (LB × LB)) (i : Int) : List Value := [aN aM z, bJ ([] : List LB), bJ ([] : List LB)]
def lS (st : Nat × Int) : LA := if st.1 = 0 then AR else if st.1 = 1 then mZ else rL
def od (st : Nat × Int) : LE := if st.1 = 0 then zg else if st.1 = 1 then mN else qo
def nuL5 (z : List (LB × LB)) (st : Nat × Int) : List Value := if st.1 = 0 then vb z (st.2) else if st.1 = 1 then vZ z (st.2) else vY z (st.2)
def roL5 (z : List (LB × LB)) (st : Nat × Int) : List Value := if st.1 = 0 then roL5_0 z (st.2) else if st.1 = 1 then roL5_1 z (st.2) else roL5_2 z (st.2)
theorem onL5 (z : List (LB × LB)) (st : Nat × Int) : ∀ j, (aY (nuL5 z st) j).oneCell' = true := by
 intro j
 unfold nuL5
 by_cases g0 : st.1 = 0
 ·rw [if_pos g0]; exact aT (l := vb z (st.2)) rfl j
 rw [if_neg g0]
 by_cases g1 : st.1 = 1
 ·rw [if_pos g1]; exact aT (l := vZ z (st.2)) rfl j
 rw [if_neg g1]
 exact aT (l := vY z (st.2)) rfl j
theorem ebL5 (st : Nat × Int) : (dG (lS st) && eG dV) = true := by
 unfold lS
 by_cases g0 : st.1 = 0
 ·rw [if_pos g0]; rfl
 rw [if_neg g0]
 by_cases g1 : st.1 = 1
 ·rw [if_pos g1]; rfl
 rw [if_neg g1]
 rfl
noncomputable def DL5 (z : List (LB × LB)) (st : Nat × Int) (X : Nat → Value) : Cx := cx (ay (nuL5 z st) (rX (roL5 z st) X)) (az (onL5 z st)) 3 aG aJ
abbrev CjL5 (z : List (LB × LB)) (tag : Nat) (i : Int) : Prop := (0 ≤ i) ∧ (i ≤ 5) ∧ (z.length ≤ 20) ∧ (∀ q, q ∈ z → cf q) ∧ (okB z) ∧ (tag = 0 → i = 0) ∧ (tag = 1 → 1 ≤ (dN z i.toNat).length) ∧ (tag = 2 → dN z i.toNat = []) ∧ (tag < 3)
def fQ (z : List (LB × LB)) (st : Nat × Int) : Prop := CjL5 z st.1 (st.2)
theorem gE {z : List (LB × LB)} {tag : Nat} {i : Int} (h : CjL5 z tag i) : fQ z (tag, i) := h
theorem lu (z : List (LB × LB)) (tag : Nat) (i : Int) (h : fQ z (tag, i)) : CjL5 z tag i := h
def jW (z : List (LB × LB)) (st : Nat × Int) : Nat := (5 - (st.2).toNat)
abbrev iB (z : List (LB × LB)) (E' : Cx) (ex' : Ex) (epx' : LA) (hpx' : LE) (st : Nat × Int) (X : Nat → Value) : Prop := bm E' gM dV 59 ex' 3 403 404 503 lS od epx' hpx' (fQ z) (jW z) (DL5 z) st X
noncomputable abbrev sS (z : List (LB × LB)) (i : Int) (X : Nat → Value) : Cx := cx (ay (vb z i) (rX (roL5_0 z i) X)) (az (aT (l := vb z i) rfl)) 3 aG aJ
theorem sLL5_0 {z : List (LB × LB)} {i : Int} {X : Nat → Value} {tb : Tab} {L : List LF} (y : Nat × Int) {th : LA} {sg : List (Nat × Nat)} (hall : bM (sS z i X) tb) (hlp : bU (sS z i X) L gM) (av : tb.ng = 3) (hy : fQ z y) (lt : jW z y < jW z (0, i)) (ht : bN (sS z i X) (DL5 z y X) th) (run : cr (code tb 3000 L gM (cN (cV AR dV) 59) ⟨bA zg .leaf, 404, 0, 0⟩) .normal dV 59 503 th sg 403 404 (lS y) (od y) = true) : iB z E' x' e' h' (0, i) X :=
 bm.next (tb := tb) (L := L) (f := 3000) y hall hlp av hy lt ht run
noncomputable abbrev nE (z : List (LB × LB)) (i : Int) (X : Nat → Value) : Cx := cx (ay (vZ z i) (rX (roL5_1 z i) X)) (az (aT (l := vZ z i) rfl)) 3 aG aJ
theorem sLL5_1 {z : List (LB × LB)} {i : Int} {X : Nat → Value} {tb : Tab} {L : List LF} (y : Nat × Int) {th : LA} {sg : List (Nat × Nat)} (hall : bM (nE z i X) tb) (hlp : bU (nE z i X) L gM) (av : tb.ng = 3) (hy : fQ z y) (lt : jW z y < jW z (1, i)) (ht : bN (nE z i X) (DL5 z y X) th) (run : cr (code tb 3000 L gM (cN (cV mZ dV) 59) ⟨bA mN .leaf, 404, 0, 0⟩) .normal dV 59 503 th sg 403 404 (lS y) (od y) = true) : iB z E' x' e' h' (1, i) X :=
 bm.next (tb := tb) (L := L) (f := 3000) y hall hlp av hy lt ht run
noncomputable abbrev RNL5_1 (h : LK) (x : Ex) (th : LA) (sg : List (Nat × Nat)) (m : Nat) (ep : LA) (hp : LE) : Bool := cr (code (aR h) 3000 [] gM (cN (cV mZ dV) 59) ⟨bA mN .leaf, 404, 0, 0⟩) x dV 59 503 th sg 403 m ep hp
theorem lvL5_1 {z : List (LB × LB)} {i : Int} {X : Nat → Value} {h : LK} {th : LA} {sg : List (Nat × Nat)} (hne : eK x' .normal = false) (ho : ∀ a' r', (a', r') ∈ h → aS (nE z i X) a' r') (ht : bN (nE z i X) E' th) (run : RNL5_1 h x' th sg 503 e' h' = true) : iB z E' x' e' h' (1, i) X :=
 bm.leave (tb := aR h) (L := []) (f := 3000) ((ab _ _).hyps ho) (bU.nil _) rfl hne ht run
noncomputable abbrev BP (z : List (LB × LB)) (i : Int) (X : Nat → Value) : Cx := cx (ay (vY z i) (rX (roL5_2 z i) X)) (az (aT (l := vY z i) rfl)) 3 aG aJ
noncomputable abbrev A9 (h : LK) (x : Ex) (th : LA) (sg : List (Nat × Nat)) (m : Nat) (ep : LA) (hp : LE) : Bool := cr (code (aR h) 3000 [] gM (cN (cV rL dV) 59) ⟨bA qo .leaf, 404, 0, 0⟩) x dV 59 503 th sg 403 m ep hp
theorem stL5_2 {z : List (LB × LB)} {i : Int} {X : Nat → Value} {h : LK} (y : Nat × Int) {th : LA} {sg : List (Nat × Nat)} (ho : ∀ a' r', (a', r') ∈ h → aS (BP z i X) a' r') (hy : fQ z y) (lt : jW z y < jW z (2, i)) (ht : bN (BP z i X) (DL5 z y X) th) (run : A9 h .normal th sg 404 (lS y) (od y) = true) : iB z E' x' e' h' (2, i) X :=
 bm.next (tb := aR h) (L := []) (f := 3000) y ((ab _ _).hyps ho) (bU.nil _) rfl hy lt ht run
theorem lvL5_2 {z : List (LB × LB)} {i : Int} {X : Nat → Value} {h : LK} {th : LA} {sg : List (Nat × Nat)} (hne : eK x' .normal = false) (ho : ∀ a' r', (a', r') ∈ h → aS (BP z i X) a' r') (ht : bN (BP z i X) E' th) (run : A9 h x' th sg 503 e' h' = true) : iB z E' x' e' h' (2, i) X :=
 bm.leave (tb := aR h) (L := []) (f := 3000) ((ab _ _).hyps ho) (bU.nil _) rfl hne ht run
def Dt : LK := []
def lh30 : LH := ⟨3, 423, 463, [(3, .r 2000000 37 2 true)], [(3, .r 2000002 37 2 true)]⟩
def lf30 : LF := ⟨3, 30, [(1, .s 10 cJ), (5, .bO), (0, .sr 3), (6, I6 0)], [], (.exit 0), [(5, .bO)], some lh30⟩
noncomputable def aR1 : Tab := bf ((aR Dt)) 31 o7 [lf30]
def LL5_p0 : List LF := []
theorem runL5_p0 : cr (code aR1 3000 LL5_p0 gM (cN (cV AR dV) 59) ⟨bA zg .leaf, 404, 0, 0⟩) .normal dV 59 503 [(0, I6 1), (2000000, .x 2000002)] [] 403 404 rL qo = true := by kernel_rfl
def Ds : LK := []
def lh31 : LH := ⟨3, 423, 463, [(3, .r 2000000 37 2 true)], [(3, .r 2000004 37 2 true), (423, .r 2000005 37 2 false)]⟩
def lf31 : LF := ⟨3, 30, [(1, .s 10 cJ), (5, .bO), (0, .sr 3), (6, I6 0)], [], (.exit 0), [(5, .sr 423)], some lh31⟩
noncomputable def aR0 : Tab := bf ((aR Ds)) 31 o7 [lf31]
def LL5_p1 : List LF := []
theorem runL5_p1 : cr (code aR0 3000 LL5_p1 gM (cN (cV AR dV) 59) ⟨bA zg .leaf, 404, 0, 0⟩) .normal dV 59 503 [(0, I6 1), (2000000, .x 2000005), (2000001, .x 2000004)] [(403, 423)] 403 404 mZ mN = true := by kernel_rfl
def Dr : LK := [(.bin .lss (.x 0) (I6 5), .b true), (.tab [.s 10 cJ, .s 17 dJ, .s 14 dX, .s 6 eD, .s 10 cg] (.x 0), .x 2), (.bin .add (.x 0) (I6 1), .x 3)]
def lh32 : LH := ⟨3, 423, 463, [(403, .r 2000000 37 2 false)], [(403, .r 2000003 37 2 false)]⟩
def lf32 : LF := ⟨3, 30, [(1, .x 2), (5, .bO), (0, .sr 403), (6, I6 0)], [], (.exit 0), [(5, .bO)], some lh32⟩
noncomputable def aQ9 : Tab := bf ((aR Dr)) 31 o7 [lf32]
def LL5_p2 : List LF := []
theorem runL5_p2 : cr (code aQ9 3000 LL5_p2 gM (cN (cV mZ dV) 59) ⟨bA mN .leaf, 404, 0, 0⟩) .normal dV 59 503 [(0, .x 3), (2000000, .x 2000001)] [] 403 404 rL qo = true := by kernel_rfl
def Dq : LK := [(.bin .lss (.x 0) (I6 5), .b true), (.tab [.s 10 cJ, .s 17 dJ, .s 14 dX, .s 6 eD, .s 10 cg] (.x 0), .x 5), (.bin .add (.x 0) (I6 1), .x 6)]
def lh33 : LH := ⟨3, 423, 463, [(403, .r 2000000 37 2 false)], [(403, .r 2000005 37 2 false), (423, .r 2000006 37 2 false)]⟩
def lf33 : LF := ⟨3, 30, [(1, .x 5), (5, .bO), (0, .sr 403), (6, I6 0)], [], (.exit 0), [(5, .sr 423)], some lh33⟩
noncomputable def aQ8 : Tab := bf ((aR Dq)) 31 o7 [lf33]
def LL5_p3 : List LF := []
theorem runL5_p3 : cr (code aQ8 3000 LL5_p3 gM (cN (cV mZ dV) 59) ⟨bA mN .leaf, 404, 0, 0⟩) .normal dV 59 503 [(0, .x 6), (2000000, .x 2000006), (2000001, .x 2000001)] [(403, 423)] 403 404 mZ mN = true := by kernel_rfl
def Dp : LK := [(.bin .lss (.x 0) (I6 5), .b false)]
theorem runL5_p4 : RNL5_1 Dp (.exit 0) [(2000000, .x 2000000), (2000001, .x 2000001)] [(403, 403)] 503 [(7, .sr 403)] [(403, .r 2000000 37 2 false), (3, .r 2000001 37 2 true)] = true := by kernel_rfl
def Dn : LK := [(.bin .lss (.x 0) (I6 5), .b true), (.tab [.s 10 cJ, .s 17 dJ, .s 14 dX, .s 6 eD, .s 10 cg] (.x 0), .x 2), (.bin .add (.x 0) (I6 1), .x 3)]
theorem runL5_p5 : A9 Dn .normal [(0, .x 3), (2000000, .x 2000000)] [] 404 rL qo = true := by kernel_rfl
def Dm : LK := [(.bin .lss (.x 0) (I6 5), .b false)]
theorem runL5_p6 : A9 Dm (.exit 0) [(2000000, .x 2000000)] [] 503 [(7, .bO)] [(3, .r 2000000 37 2 true)] = true := by kernel_rfl
section
variable {z : List (LB × LB)} {i : Int} {X : Nat → Value}
theorem aW2 (hI : fQ z (0, i)) (h0 : ba (cR) z = []) : iB z E' x' e' h' (0, i) X := by
 obtain ⟨i0, i1, i2, i3, i4, i5, i6, i7, it⟩ := lu z 0 i hI
 have hdn := dw z i.toNat
 have := gI (cR) z
 have ho : ∀ a' r', (a', r') ∈ Dt → aS (sS z i X) a' r' := by
  unfold Dt
  exact hnil
 exact sLL5_0 (tb := aR1) (L := LL5_p0) (2, (1 : Int)) (bM.dn ((ab _ _).hyps ho) (by omega) AG AF (bq (dm rfl ⟨0, keyDp3, cI.use (l := lf30) (h := lh30) (lfOkDp3_0 z (cR) (by assumption)) (0, (0 : Int), ([] : List (LB × LB))) (oD ⟨by omega, by omega, ⟨by omega, by first | omega | decide⟩, by assumption, by assumption, rfl, fun _ => rfl, by omega, by omega⟩) rfl (by kernel_rfl) (bD := [(0, .s 10 cJ), (1, I6 0), (2000000, .x 2000000)]) (a8 := []) (fun X => eF (show Is _ (.s 10 cJ) (St' (cR)) from lA (v := St' (cR)) (aO (l := cR) 10 cJ rfl) (by first | rfl | (simp; done))) (eF ed (aW (v := aN aM z) (ao)))) (by kernel_rfl) (bB := [(2000002, .x 2000000)]) (aW (v := aN aM z) (ao)) (by kernel_rfl)⟩) bj)) (qU bj) rfl (gE ⟨by omega, by omega, i2, i3, i4, by omega, by omega, fun _ => by rw [← dN_1 z]; assumption, by omega⟩) (by show 5 - ((1 : Int)).toNat < 5 - i.toNat; omega) (eF (show Is _ (I6 1) (.int .i64 ((1 : Int))) from lA (v := .int .i64 1) (isI _ _) (by first | rfl | (congr 1; omega))) (aW (v := aN aM z) (ao))) runL5_p0
theorem aW1 (hI : fQ z (0, i)) (h0 : ¬ (ba (cR) z = [])) : iB z E' x' e' h' (0, i) X := by
 obtain ⟨i0, i1, i2, i3, i4, i5, i6, i7, it⟩ := lu z 0 i hI
 have hdn := dw z i.toNat
 have := gI (cR) z
 have ho : ∀ a' r', (a', r') ∈ Ds → aS (sS z i X) a' r' := by
  unfold Ds
  exact hnil
 exact sLL5_0 (tb := aR0) (L := LL5_p1) (1, (1 : Int)) (bM.dn ((ab _ _).hyps ho) (by omega) AG AF (bq (dm rfl ⟨0, keyDp3, cI.use (l := lf31) (h := lh31) (lfOkDp3_1 z (cR) (List.length_pos_iff.2 (by assumption))) (0, (0 : Int), ([] : List (LB × LB))) (oD ⟨by omega, by omega, ⟨by omega, by first | omega | decide⟩, by assumption, by assumption, rfl, fun _ => rfl, by omega, by omega⟩) rfl (by kernel_rfl) (bD := [(0, .s 10 cJ), (1, I6 0), (2000000, .x 2000000)]) (a8 := []) (fun X => eF (show Is _ (.s 10 cJ) (St' (cR)) from lA (v := St' (cR)) (aO (l := cR) 10 cJ rfl) (by first | rfl | (simp; done))) (eF ed (aW (v := aN aM z) (ao)))) (by kernel_rfl) (bB := [(2000004, .x 2000000), (2000005, .x 2000001)]) (aW (v := aN aM z) (aW (v := aN aM (ba (cR) z)) (ao))) (by kernel_rfl)⟩) bj)) (qU bj) rfl (gE ⟨by omega, by omega, i2, i3, i4, by omega, fun _ => by rw [← dN_1 z]; exact List.length_pos_iff.2 (by assumption), by omega, by omega⟩) (by show 5 - ((1 : Int)).toNat < 5 - i.toNat; omega) (eF (show Is _ (I6 1) (.int .i64 ((1 : Int))) from lA (v := .int .i64 1) (isI _ _) (by first | rfl | (congr 1; omega))) (bn (v := aN aM (ba (cR) z)) (u := aN aM (dN z (Int.toNat (1 : Int)))) rfl rfl (congrArg (aN aM) (dN_1 z)) (aW (v := aN aM z) (ao)))) runL5_p1
theorem aW0 (hI : fQ z (1, i)) (h0 : i < 5) (h1 : ba (cq cX i) (dN z i.toNat) = []) : iB z E' x' e' h' (1, i) X := by
 obtain ⟨i0, i1, i2, i3, i4, i5, i6, i7, it⟩ := lu z 1 i hI
 have hdn := dw z i.toNat
 have := Br i
 have := gI (cq cX i) (dN z i.toNat)
 have ho : ∀ a' r', (a', r') ∈ Dr → aS (nE z i X) a' r' := by
  unfold Dr
  exact hc kb <|hc (C4 (t := cX) (aA rfl) (by omega) (by have : (cX.length : Int) = 5 := rfl; omega) rfl rfl) <|hc cQ <|hnil
 exact sLL5_1 (tb := aQ9) (L := LL5_p2) (2, (i + 1)) (bM.dn ((ab _ _).hyps ho) (by omega) AG AF (bq (dm rfl ⟨0, aN4, cI.use (l := lf32) (h := lh32) (lfOkDp403_0 (dN z i.toNat) (cq cX i) (by assumption)) (0, (0 : Int), ([] : List (LB × LB))) (oC ⟨by omega, by omega, ⟨by omega, by first | omega | decide⟩, l6 (by assumption) _, l8 (by assumption) _, rfl, fun _ => rfl, by omega, by omega⟩) rfl (by kernel_rfl) (bD := [(0, .x 2), (1, I6 0), (2000000, .x 2000000)]) (a8 := []) (fun X => aW (v := St' (cq cX i)) (eF ed (aW (v := aN aM (dN z i.toNat)) (ao)))) (by kernel_rfl) (bB := [(2000003, .x 2000000)]) (aW (v := aN aM (dN z i.toNat)) (ao)) (by kernel_rfl)⟩) bj)) (qU bj) rfl (gE ⟨by omega, by omega, i2, i3, i4, by omega, by omega, fun _ => by rw [← Ae (z := z) (i := i) (by omega)]; assumption, by omega⟩) (by show 5 - ((i + 1)).toNat < 5 - i.toNat; omega) (c8 (b := ((i + 1))) rfl rfl (by omega) (aW (v := aN aM z) (ao))) runL5_p2
theorem aV9 (hI : fQ z (1, i)) (h0 : i < 5) (h1 : ¬ (ba (cq cX i) (dN z i.toNat) = [])) : iB z E' x' e' h' (1, i) X := by
 obtain ⟨i0, i1, i2, i3, i4, i5, i6, i7, it⟩ := lu z 1 i hI
 have hdn := dw z i.toNat
 have := Br i
 have := gI (cq cX i) (dN z i.toNat)
 have ho : ∀ a' r', (a', r') ∈ Dq → aS (nE z i X) a' r' := by
  unfold Dq
  exact hc kb <|hc (C4 (t := cX) (aA rfl) (by omega) (by have : (cX.length : Int) = 5 := rfl; omega) rfl rfl) <|hc cQ <|hnil
 exact sLL5_1 (tb := aQ8) (L := LL5_p3) (1, (i + 1)) (bM.dn ((ab _ _).hyps ho) (by omega) AG AF (bq (dm rfl ⟨0, aN4, cI.use (l := lf33) (h := lh33) (lfOkDp403_1 (dN z i.toNat) (cq cX i) (List.length_pos_iff.2 (by assumption))) (0, (0 : Int), ([] : List (LB × LB))) (oC ⟨by omega, by omega, ⟨by omega, by first | omega | decide⟩, l6 (by assumption) _, l8 (by assumption) _, rfl, fun _ => rfl, by omega, by omega⟩) rfl (by kernel_rfl) (bD := [(0, .x 5), (1, I6 0), (2000000, .x 2000000)]) (a8 := []) (fun X => aW (v := St' (cq cX i)) (eF ed (aW (v := aN aM (dN z i.toNat)) (ao)))) (by kernel_rfl) (bB := [(2000005, .x 2000000), (2000006, .x 2000001)]) (aW (v := aN aM (dN z i.toNat)) (aW (v := aN aM (ba (cq cX i) (dN z i.toNat))) (ao))) (by kernel_rfl)⟩) bj)) (qU bj) rfl (gE ⟨by omega, by omega, i2, i3, i4, by omega, fun _ => by rw [← Ae (z := z) (i := i) (by omega)]; exact List.length_pos_iff.2 (by assumption), by omega, by omega⟩) (by show 5 - ((i + 1)).toNat < 5 - i.toNat; omega) (c8 (b := ((i + 1))) rfl rfl (by omega) (bn (v := aN aM (ba (cq cX i) (dN z i.toNat))) (u := aN aM (dN z (Int.toNat (i + 1)))) rfl rfl (congrArg (aN aM) (Ae (by omega))) (aW (v := aN aM z) (ao)))) runL5_p3
theorem aV8 (hI : fQ z (2, i)) (h0 : i < 5) : iB z E' x' e' h' (2, i) X := by
 obtain ⟨i0, i1, i2, i3, i4, i5, i6, i7, it⟩ := lu z 2 i hI
 have hdn := dw z i.toNat
 have := Br i
 refine stL5_2 (h := Dn) (2, (i + 1)) ?_ (gE ⟨by omega, by omega, i2, i3, i4, by omega, by omega, fun _ => by rw [← Ae (z := z) (i := i) (by omega)]; exact drop_0 (i7 rfl), by omega⟩) (by show 5 - ((i + 1)).toNat < 5 - i.toNat; omega) (c8 (b := ((i + 1))) rfl rfl (by omega) (aW (v := aN aM z) (ao))) runL5_p5
 unfold Dn
 exact hc kb <|hc (C4 (t := cX) (aA rfl) (by omega) (by have : (cX.length : Int) = 5 := rfl; omega) rfl rfl) <|hc cQ <|hnil
end
def aW8 (z : List (LB × LB)) : List Value := []
def roEL5_0 (z : List (LB × LB)) : List Value := [aN aM z]
noncomputable def EL5_0 (z : List (LB × LB)) : Cx := cx (ay (aW8 z) (rX (roEL5_0 z) (fun _ => .bool true))) (az (aT (l := aW8 z) rfl)) 3 aG aJ
theorem roundsL5_0 (z : List (LB × LB)) (x0 : dN z 5 = []) (st : Nat × Int) (X : Nat → Value) (hI : fQ z st) : iB z (EL5_0 z) (.exit 0) [(7, .bO)] [(3, .r 2000000 37 2 true)] st X := by
 obtain ⟨tag, i⟩ := st
 have hI0 := hI
 obtain ⟨i0, i1, i2, i3, i4, i5, i6, i7, it⟩ := lu z tag i hI
 rcases (show tag = 0 ∨ tag = 1 ∨ tag = 2 from by omega) with rfl | rfl | rfl
 ·have hdn := dw z i.toNat
  by_cases h0 : ba (cR) z = []
  ·exact aW2 hI0 h0
  ·exact aW1 hI0 h0
 ·have hdn := dw z i.toNat
  by_cases h0 : i < 5
  ·by_cases h1 : ba (cq cX i) (dN z i.toNat) = []
   ·exact aW0 hI0 h0 h1
   ·exact aV9 hI0 h0 h1
  ·exfalso; have hL := i6 rfl; rw [show i = 5 by omega, show Int.toNat 5 = 5 from rfl, x0] at hL; simp at hL
 ·have hdn := dw z i.toNat
  by_cases h0 : i < 5
  ·exact aV8 hI0 h0
  ·refine lvL5_2 (h := Dm) rfl ?_ (aW (v := aN aM z) (ao)) runL5_p6
   unfold Dm
   exact hc il <|hnil
theorem xD (z : List (LB × LB)) (x0 : dN z 5 = []) : cI (cx nu one 3 aG aJ) (EL5_0 z) gM dV 59 (.exit 0) 3 403 404 503 lS od [(7, .bO)] [(3, .r 2000000 37 2 true)] (fQ z) (DL5 z) :=
 fb (jW z) (fun _ _ => rfl) (fun _ _ => rfl) (fun _ _ => rfl) (fun st X t ht => fX.trans (fV ((by decide : ∀ t, t ∈ dV → t < 1000000) t ht))) rfl rfl rfl ebL5 rfl rfl (roundsL5_0 z x0)
def aW7 (z : List (LB × LB)) : List Value := []
def roEL5_1 (z : List (LB × LB)) : List Value := [aN aM (dN z 5), aN aM z]
noncomputable def EL5_1 (z : List (LB × LB)) : Cx := cx (ay (aW7 z) (rX (roEL5_1 z) (fun _ => .bool true))) (az (aT (l := aW7 z) rfl)) 3 aG aJ
theorem roundsL5_1 (z : List (LB × LB)) (x0 : 1 ≤ (dN z 5).length) (st : Nat × Int) (X : Nat → Value) (hI : fQ z st) : iB z (EL5_1 z) (.exit 0) [(7, .sr 403)] [(403, .r 2000000 37 2 false), (3, .r 2000001 37 2 true)] st X := by
 obtain ⟨tag, i⟩ := st
 have hI0 := hI
 obtain ⟨i0, i1, i2, i3, i4, i5, i6, i7, it⟩ := lu z tag i hI
 rcases (show tag = 0 ∨ tag = 1 ∨ tag = 2 from by omega) with rfl | rfl | rfl
 ·have hdn := dw z i.toNat
  by_cases h0 : ba (cR) z = []
  ·exact aW2 hI0 h0
  ·exact aW1 hI0 h0
 ·have hdn := dw z i.toNat
  by_cases h0 : i < 5
  ·by_cases h1 : ba (cq cX i) (dN z i.toNat) = []
   ·exact aW0 hI0 h0 h1
   ·exact aV9 hI0 h0 h1
  ·refine lvL5_1 (h := Dp) rfl ?_ (bn (v := aN aM (dN z i.toNat)) (u := aN aM (dN z 5)) rfl rfl (congrArg (aN aM) (by rw [show i = 5 by omega]; rfl)) (aW (v := aN aM z) (ao))) runL5_p4
   unfold Dp
   exact hc il <|hnil
 ·have hdn := dw z i.toNat
  by_cases h0 : i < 5
  ·exact aV8 hI0 h0
  ·exfalso; have hL := i7 rfl; rw [show i = 5 by omega, show Int.toNat 5 = 5 from rfl] at hL; rw [hL] at x0; simp at x0
theorem xC (z : List (LB × LB)) (x0 : 1 ≤ (dN z 5).length) : cI (cx nu one 3 aG aJ) (EL5_1 z) gM dV 59 (.exit 0) 3 403 404 503 lS od [(7, .sr 403)] [(403, .r 2000000 37 2 false), (3, .r 2000001 37 2 true)] (fQ z) (DL5 z) :=
 fb (jW z) (fun _ _ => rfl) (fun _ _ => rfl) (fun _ _ => rfl) (fun st X t ht => fX.trans (fV ((by decide : ∀ t, t ∈ dV → t < 1000000) t ht))) rfl rfl rfl ebL5 rfl rfl (roundsL5_1 z x0)
end Go.Proofs.YtngkglegomkjkaaDoor.replyTells

