/- A part of the proof: what an interpreter answers on partly known states is what the program answers. No condition. -/
import Derived.Test.YtjkdkpdjmapieaaDoorE1FieldTellsO7
set_option maxRecDepth 100000
set_option linter.unusedVariables false
set_option linter.unusedSimpArgs false
set_option maxHeartbeats 4000000
namespace Go.Proofs.YtjkdkpdjmapieaaDoor.fieldTells
open Go Go.AX Go.Proofs Go.Proofs.YtjkdkpdjmapieaaDoor
variable {nu : Nat → Value} {one : ∀ i, i < 1000000 → (nu i).oneCell' = true} {E' : Cx} {x' : Ex} {e' : LA} {h' : LE}
noncomputable def pe : Code := cS (Tryd.f16.body.getD .skip) 1
def lB : List Nat := [0, 1, 8, 11, 12, 13, 14, 15, 16]
def II : LA := [(2, .x 0), (20, .sr 504), (22, .x 1), (21, .x 2)]
def HS : LE := [(504, .r 2000000 9 1 false)]
def xW (W : List LB) (wd : LB) (i : Int) : List Value := [St' wd, .int .i64 (i), .int .i64 ((W.length : Int)), St' ([] : LB), St' (List.getD W i.toNat []), St' (aN (List.getD W i.toNat [])), St' (aN wd), St' ([] : LB), St' (List.getD W i.toNat []), St' (aN (List.getD W i.toNat [])), St' (aN wd), .int .i64 (i + 1), St' ([] : LB)]
def aY2 (W : List LB) (wd : LB) (i : Int) : List Value := [aO W]
def pY (st : Nat × Int) : LA := II
def zu (st : Nat × Int) : LE := HS
def DS (W : List LB) (wd : LB) (st : Nat × Int) : List Value := xW W wd (st.2)
def roHa2 (W : List LB) (wd : LB) (st : Nat × Int) : List Value := aY2 W wd (st.2)
theorem onHa2 (W : List LB) (wd : LB) (st : Nat × Int) : ∀ j, (ai (DS W wd st) j).oneCell' = true := by
  intro j
  unfold DS
  exact aQ (l := xW W wd (st.2)) rfl j
theorem ebHa2 (st : Nat × Int) : (cG (pY st) && cO lB) = true := by
  unfold pY
  rfl
noncomputable def Bo (W : List LB) (wd : LB) (st : Nat × Int) (X : Nat → Value) : Cx := cx (af (DS W wd st) (rX (roHa2 W wd st) X)) (ah (onHa2 W wd st)) 1 aC aG
abbrev JW (W : List LB) (wd : LB) (tag : Nat) (i : Int) : Prop := (0 ≤ i) ∧ (i ≤ (W.length : Int)) ∧ (W.length ≤ 2000) ∧ (cu (W.take i.toNat) wd = false) ∧ (wd.length ≤ 1000 ∧ ∀ q, q ∈ W → q.length ≤ 1000) ∧ (tag < 1)
def kM (W : List LB) (wd : LB) (st : Nat × Int) : Prop := JW W wd st.1 (st.2)
theorem Di {W : List LB} {wd : LB} {tag : Nat} {i : Int} (h : JW W wd tag i) : kM W wd (tag, i) := h
theorem Cb (W : List LB) (wd : LB) (tag : Nat) (i : Int) (h : kM W wd (tag, i)) : JW W wd tag i := h
def re (W : List LB) (wd : LB) (st : Nat × Int) : Nat := (W.length - (st.2).toNat)
abbrev u7 (W : List LB) (wd : LB) (E' : Cx) (ex' : Ex) (epx' : LA) (hpx' : LE) (st : Nat × Int) (X : Nat → Value) : Prop := a6 E' pe lB 31 ex' 4 504 505 516 pY zu epx' hpx' (kM W wd) (re W wd) (Bo W wd) st X
noncomputable abbrev CC (W : List LB) (wd : LB) (i : Int) (X : Nat → Value) : Cx := cx (af (xW W wd i) (rX (aY2 W wd i) X)) (ah (aQ (l := xW W wd i) rfl)) 1 aC aG
noncomputable abbrev ui (h : LK) (x : Ex) (th : LA) (sg : List (Nat × Nat)) (m : Nat) (ep : LA) (hp : LE) : Bool := bn (code (aV h) 3000 [] pe (bc (bf II lB) 31) ⟨ay HS .leaf, 505, 0, 0⟩) x lB 31 516 th sg 504 m ep hp
theorem stHa2_0 {W : List LB} {wd : LB} {i : Int} {X : Nat → Value} {h : LK} (y : Nat × Int) {th : LA} {sg : List (Nat × Nat)} (ho : ∀ a' r', (a', r') ∈ h → aL (CC W wd i X) a' r') (hy : kM W wd y) (lt : re W wd y < re W wd (0, i)) (ht : aw (CC W wd i X) (Bo W wd y X) th) (run : ui h .normal th sg 505 (pY y) (zu y) = true) : u7 W wd E' x' e' h' (0, i) X :=
  a6.next (tb := aV h) (L := []) (f := 3000) y ((ae _ _).hyps ho) (bA.nil _) rfl hy lt ht run
theorem bE1 {W : List LB} {wd : LB} {i : Int} {X : Nat → Value} {h : LK} {th : LA} {sg : List (Nat × Nat)} (hne : cI x' .normal = false) (ho : ∀ a' r', (a', r') ∈ h → aL (CC W wd i X) a' r') (ht : aw (CC W wd i X) E' th) (run : ui h x' th sg 516 e' h' = true) : u7 W wd E' x' e' h' (0, i) X :=
  a6.leave (tb := aV h) (L := []) (f := 3000) ((ae _ _).hyps ho) (bA.nil _) rfl hne ht run
def Gi : LK := [(.bin .lss (.x 1) (.x 2), .b true), (.el (.x 2000000) (.x 1) 1 0, .x 4), (.call 43 [.x 4], .x 5), (.call 43 [.x 0], .x 6), (.bin .eql (.x 5) (.x 6), .b true)]
theorem runHa2_p0 : ui Gi .ret [] [] 516 [(6, .b true)] [] = true := by kernel_rfl
def Gh : LK := [(.bin .lss (.x 1) (.x 2), .b true), (.el (.x 2000000) (.x 1) 1 0, .x 8), (.call 43 [.x 8], .x 9), (.call 43 [.x 0], .x 10), (.bin .eql (.x 9) (.x 10), .b false), (.bin .add (.x 1) (I6 1), .x 11)]
theorem runHa2_p1 : ui Gh .normal [(0, .x 0), (1, .x 11), (2, .x 2), (2000000, .x 2000000)] [(504, 504)] 505 II HS = true := by kernel_rfl
def Gg : LK := [(.bin .lss (.x 1) (.x 2), .b false)]
theorem runHa2_p2 : ui Gg (.exit 2) [(0, .x 0)] [] 516 [(2, .x 0)] [] = true := by kernel_rfl
section
variable {W : List LB} {wd : LB} {i : Int} {X : Nat → Value}
theorem aR7 (hI : kM W wd (0, i)) (h0 : i < (W.length : Int)) (h1 : ¬ ((aN (List.getD W i.toNat [])) = (aN wd))) : u7 W wd E' x' e' h' (0, i) X := by
  obtain ⟨i0, i1, i2, i3, i4, it⟩ := Cb W wd 0 i hI
  have hgd := dN i4.2 i.toNat
  have : (aN (List.getD W i.toNat [])).length = (List.getD W i.toNat []).length := List.length_map ..
  have : (aN wd).length = wd.length := List.length_map ..
  refine stHa2_0 (h := Gh) (0, (i + 1)) ?_ (Di ⟨by omega, by omega, i2, any_n i0 (by omega) i3 (by assumption), i4, by omega⟩) (by show W.length - (i + 1).toNat < W.length - i.toNat; omega) (aB (v := St' wd) rfl rfl (bT (b := ((i + 1))) rfl rfl (by omega) (aB (v := .int .i64 ((W.length : Int))) rfl rfl (aB (v := aO W) rfl rfl (aI))))) runHa2_p1
  unfold Gh
  exact hc (ba rfl rfl (by omega)) <|hc (gP (j := i.toNat) (aA rfl) (aA rfl) (aE rfl) (by omega) (by first | omega | (simp <;> omega))) <|hc (dc (s := (List.getD W i.toNat [])) (aA rfl) (aE rfl)) <|hc (dc (s := wd) (aA rfl) (aE rfl)) <|hc (cH (aA rfl) (aA rfl) (by first | exact decide_eq_true rfl | exact decide_eq_true ‹_› | exact decide_eq_false ‹_›)) <|hc (bO rfl rfl (by omega)) <|hnil
end
def aT3 (W : List LB) (wd : LB) : List Value := [St' wd]
def roEHa2_0 (W : List LB) (wd : LB) : List Value := []
noncomputable def EHa2_0 (W : List LB) (wd : LB) : Cx := cx (af (aT3 W wd) (rX (roEHa2_0 W wd) (fun _ => .bool true))) (ah (aQ (l := aT3 W wd) rfl)) 1 aC aG
theorem roundsHa2_0 (W : List LB) (wd : LB) (x0 : cu W wd = false) (st : Nat × Int) (X : Nat → Value) (hI : kM W wd st) : u7 W wd (EHa2_0 W wd) (.exit 2) [(2, .x 0)] [] st X := by
  obtain ⟨tag, i⟩ := st
  have hI0 := hI
  obtain ⟨i0, i1, i2, i3, i4, it⟩ := Cb W wd tag i hI
  obtain rfl : tag = 0 := by omega
  skip
  have hgd := dN i4.2 i.toNat
  by_cases h0 : i < (W.length : Int)
  · by_cases h1 : (aN (List.getD W i.toNat [])) = (aN wd)
    · exfalso; have hC := any_y (wd := wd) i0 (by omega) (by assumption); rw [x0] at hC; cases hC
    · exact aR7 hI0 h0 h1
  · skip
    have hgd := dN i4.2 i.toNat
    refine bE1 (h := Gg) rfl ?_ (aB (v := St' wd) rfl rfl (aI)) runHa2_p2
    unfold Gg
    exact hc (dB rfl rfl (by omega)) <|hnil
theorem lfOkHa2_0 (W : List LB) (wd : LB) (x0 : cu W wd = false) : ax (cx nu one 1 aC aG) (EHa2_0 W wd) pe lB 31 (.exit 2) 4 504 505 516 pY zu [(2, .x 0)] [] (kM W wd) (Bo W wd) :=
  cF (re W wd) (fun _ _ => rfl) (fun _ _ => rfl) (fun _ _ => rfl) (fun st X t ht => cE.trans (cD ((by decide : ∀ t, t ∈ lB → t < 1000000) t ht))) rfl rfl rfl ebHa2 rfl rfl (roundsHa2_0 W wd x0)
def aT2 (W : List LB) (wd : LB) : List Value := []
def roEHa2_1 (W : List LB) (wd : LB) : List Value := []
noncomputable def EHa2_1 (W : List LB) (wd : LB) : Cx := cx (af (aT2 W wd) (rX (roEHa2_1 W wd) (fun _ => .bool true))) (ah (aQ (l := aT2 W wd) rfl)) 1 aC aG
theorem roundsHa2_1 (W : List LB) (wd : LB) (x0 : cu W wd = true) (st : Nat × Int) (X : Nat → Value) (hI : kM W wd st) : u7 W wd (EHa2_1 W wd) .ret [(6, .b true)] [] st X := by
  obtain ⟨tag, i⟩ := st
  have hI0 := hI
  obtain ⟨i0, i1, i2, i3, i4, it⟩ := Cb W wd tag i hI
  obtain rfl : tag = 0 := by omega
  skip
  have hgd := dN i4.2 i.toNat
  by_cases h0 : i < (W.length : Int)
  · by_cases h1 : (aN (List.getD W i.toNat [])) = (aN wd)
    · skip
      have hgd := dN i4.2 i.toNat
      have : (aN (List.getD W i.toNat [])).length = (List.getD W i.toNat []).length := List.length_map ..
      have : (aN wd).length = wd.length := List.length_map ..
      refine bE1 (h := Gi) rfl ?_ (aI) runHa2_p0
      unfold Gi
      exact hc (ba rfl rfl (by omega)) <|hc (gP (j := i.toNat) (aA rfl) (aA rfl) (aE rfl) (by omega) (by first | omega | (simp <;> omega))) <|hc (dc (s := (List.getD W i.toNat [])) (aA rfl) (aE rfl)) <|hc (dc (s := wd) (aA rfl) (aE rfl)) <|hc (cH (aA rfl) (aA rfl) (by first | exact decide_eq_true rfl | exact decide_eq_true ‹_› | exact decide_eq_false ‹_›)) <|hnil
    · exact aR7 hI0 h0 h1
  · exfalso; have hC := any_e (by omega) i3; rw [x0] at hC; cases hC
theorem lfOkHa2_1 (W : List LB) (wd : LB) (x0 : cu W wd = true) : ax (cx nu one 1 aC aG) (EHa2_1 W wd) pe lB 31 .ret 4 504 505 516 pY zu [(6, .b true)] [] (kM W wd) (Bo W wd) :=
  cF (re W wd) (fun _ _ => rfl) (fun _ _ => rfl) (fun _ _ => rfl) (fun st X t ht => cE.trans (cD ((by decide : ∀ t, t ∈ lB → t < 1000000) t ht))) rfl rfl rfl ebHa2 rfl rfl (roundsHa2_1 W wd x0)
noncomputable def lP : FI := (bB.fn.get 16).getD default
theorem o9 : bB.fn.get 16 = some lP := by kernel_rfl
theorem o8 : lP.body = some (Tryd.f16.body.getD .skip) := by kernel_rfl
theorem Ht : lP.body.isSome = true := by rw [o8]; rfl
theorem Ie : (br (Tryd.f16.body.getD .skip)).all (fun b => !(hM (Go.AX.keyOf b) 8888888)) = true := by kernel_rfl
noncomputable def eu : Code := cS (Tryd.f16.body.getD .skip) 0
theorem keyHa1 : cU (br (Tryd.f16.body.getD .skip)) 2 0 0 = true := by kernel_rfl
def eC : List Nat := []
def kA : LA := [(2, .x 0), (13, .sr 404), (15, .x 1), (14, .x 2)]
def jo : LE := [(404, .r 2000000 9 1 false)]
def xX (V : List LB) (wd : LB) (i : Int) : List Value := [St' wd, .int .i64 (i), .int .i64 ((V.length : Int)), St' ([] : LB), St' (List.getD V i.toNat []), .int .i64 (i + 1), St' ([] : LB), St' (List.getD V i.toNat []), .int .i64 (((bD [] (List.getD V i.toNat [])).length : Int)), St' wd, .int .i64 (i + 1), St' ([] : LB), St' (List.getD V i.toNat []), .int .i64 (((bD [] (List.getD V i.toNat [])).length : Int)), St' ([] : LB)]
def aY3 (V : List LB) (wd : LB) (i : Int) : List Value := [aO V, aO (bD [] (List.getD V i.toNat [])), aO (bD [] (List.getD V i.toNat []))]
def pZ (st : Nat × Int) : LA := kA
def zw (st : Nat × Int) : LE := jo
def DT (V : List LB) (wd : LB) (st : Nat × Int) : List Value := xX V wd (st.2)
def roHa1 (V : List LB) (wd : LB) (st : Nat × Int) : List Value := aY3 V wd (st.2)
theorem onHa1 (V : List LB) (wd : LB) (st : Nat × Int) : ∀ j, (ai (DT V wd st) j).oneCell' = true := by
  intro j
  unfold DT
  exact aQ (l := xX V wd (st.2)) rfl j
theorem ebHa1 (st : Nat × Int) : (cG (pZ st) && cO eC) = true := by
  unfold pZ
  rfl
noncomputable def Bp (V : List LB) (wd : LB) (st : Nat × Int) (X : Nat → Value) : Cx := cx (af (DT V wd st) (rX (roHa1 V wd st) X)) (ah (onHa1 V wd st)) 1 aC aG
abbrev JX (V : List LB) (wd : LB) (tag : Nat) (i : Int) : Prop := (0 ≤ i) ∧ (i ≤ (V.length : Int)) ∧ (V.length ≤ 2000) ∧ (bx (V.take i.toNat) wd = false) ∧ (wd.length ≤ 1000 ∧ ∀ q, q ∈ V → q.length ≤ 800) ∧ (tag < 1)
def jN (V : List LB) (wd : LB) (st : Nat × Int) : Prop := JX V wd st.1 (st.2)
theorem yG {V : List LB} {wd : LB} {tag : Nat} {i : Int} (h : JX V wd tag i) : jN V wd (tag, i) := h
theorem ve (V : List LB) (wd : LB) (tag : Nat) (i : Int) (h : jN V wd (tag, i)) : JX V wd tag i := h
def ri (V : List LB) (wd : LB) (st : Nat × Int) : Nat := (V.length - (st.2).toNat)
abbrev nQ (V : List LB) (wd : LB) (E' : Cx) (ex' : Ex) (epx' : LA) (hpx' : LE) (st : Nat × Int) (X : Nat → Value) : Prop := a6 E' eu eC 31 ex' 4 404 405 544 pZ zw epx' hpx' (jN V wd) (ri V wd) (Bp V wd) st X
noncomputable abbrev iL (V : List LB) (wd : LB) (i : Int) (X : Nat → Value) : Cx := cx (af (xX V wd i) (rX (aY3 V wd i) X)) (ah (aQ (l := xX V wd i) rfl)) 1 aC aG
theorem aX2 {V : List LB} {wd : LB} {i : Int} {X : Nat → Value} {tb : Tab} {L : List LF} (y : Nat × Int) {th : LA} {sg : List (Nat × Nat)} (hall : ar (iL V wd i X) tb) (hlp : bA (iL V wd i X) L eu) (aX : tb.ng = 4) (hy : jN V wd y) (lt : ri V wd y < ri V wd (0, i)) (ht : aw (iL V wd i X) (Bp V wd y X) th) (run : bn (code tb 4000 L eu (bc (bf kA eC) 31) ⟨ay jo .leaf, 405, 0, 0⟩) .normal eC 31 544 th sg 404 405 (pZ y) (zw y) = true) : nQ V wd E' x' e' h' (0, i) X :=
  a6.next (tb := tb) (L := L) (f := 4000) y hall hlp aX hy lt ht run
theorem lLHa1_0 {V : List LB} {wd : LB} {i : Int} {X : Nat → Value} {tb : Tab} {L : List LF} {th : LA} {sg : List (Nat × Nat)} (hne : cI x' .normal = false) (hall : ar (iL V wd i X) tb) (hlp : bA (iL V wd i X) L eu) (aX : tb.ng = 4) (ht : aw (iL V wd i X) E' th) (run : bn (code tb 4000 L eu (bc (bf kA eC) 31) ⟨ay jo .leaf, 405, 0, 0⟩) x' eC 31 544 th sg 404 544 e' h' = true) : nQ V wd E' x' e' h' (0, i) X :=
  a6.leave (tb := tb) (L := L) (f := 4000) hall hlp aX hne ht run
noncomputable abbrev bH1 (h : LK) (x : Ex) (th : LA) (sg : List (Nat × Nat)) (m : Nat) (ep : LA) (hp : LE) : Bool := bn (code (aV h) 4000 [] eu (bc (bf kA eC) 31) ⟨ay jo .leaf, 405, 0, 0⟩) x eC 31 544 th sg 404 m ep hp
theorem lvHa1_0 {V : List LB} {wd : LB} {i : Int} {X : Nat → Value} {h : LK} {th : LA} {sg : List (Nat × Nat)} (hne : cI x' .normal = false) (ho : ∀ a' r', (a', r') ∈ h → aL (iL V wd i X) a' r') (ht : aw (iL V wd i X) E' th) (run : bH1 h x' th sg 544 e' h' = true) : nQ V wd E' x' e' h' (0, i) X :=
  a6.leave (tb := aV h) (L := []) (f := 4000) ((ae _ _).hyps ho) (bA.nil _) rfl hne ht run
def Gm : LK := [(.bin .lss (.x 1) (.x 2), .b true), (.el (.x 2000000) (.x 1) 1 0, .x 4), (.bin .add (.x 1) (I6 1), .x 5)]
def lh28 : LH := ⟨4, 404, 434, [], []⟩
def lf28 : LF := ⟨8888888, 0, [(0, .x 4)], [], .normal, [(0, .aq)], some lh28⟩
def lh29 : LH := ⟨4, 405, 435, [], []⟩
def lf29 : LF := ⟨8888888, 0, [(0, .x 4)], [], .normal, [(0, .aq)], some lh29⟩
noncomputable def aP6 : Tab := bI ((aV Gm)) 34 iy [lf29]
def bH7 : List LF := []
theorem runHa1_p0 : bn (code aP6 4000 bH7 eu (bc (bf kA eC) 31) ⟨ay jo .leaf, 405, 0, 0⟩) .normal eC 31 544 [(0, .x 0), (1, .x 5), (2, .x 2), (2000000, .x 2000000)] [(404, 404)] 404 405 kA jo = true := by kernel_rfl
def Gl : LK := [(.bin .lss (.x 1) (.x 2), .b true), (.el (.x 2000000) (.x 1) 1 0, .x 7), (.rl (.x 2000001) 1, .x 8), (.bin .add (.x 1) (I6 1), .x 10)]
def lh30 : LH := ⟨4, 404, 434, [], [(404, .r 2000001 9 1 false)]⟩
def lf30 : LF := ⟨8888888, 0, [(0, .x 7)], [], .normal, [(0, .sr 404)], some lh30⟩
def lh31 : LH := ⟨4, 405, 435, [], [(405, .r 2000001 9 1 false)]⟩
def lf31 : LF := ⟨8888888, 0, [(0, .x 7)], [], .normal, [(0, .sr 405)], some lh31⟩
def lh32 : LH := ⟨4, 504, 516, [(405, .r 2000001 9 1 false)], []⟩
def lf32 : LF := ⟨5, 31, [(2, .x 0), (20, .sr 405), (22, I6 0), (21, .x 8)], [0, 1, 8, 11, 12, 13, 14, 15, 16], (.exit 2), [(2, .x 9)], some lh32⟩
noncomputable def aP5 : Tab := bI ((aV Gl)) 34 iy [lf31]
def bH6 : List LF := [lf32]
theorem bqHa1_p1_5 : cS eu 0 = pe := by kernel_rfl
theorem kqHa1_p1_5 : cU (br eu) 5 0 0 = true := by kernel_rfl
theorem runHa1_p1 : bn (code aP5 4000 bH6 eu (bc (bf kA eC) 31) ⟨ay jo .leaf, 405, 0, 0⟩) .normal eC 31 544 [(0, .x 9), (1, .x 10), (2, .x 2), (2000000, .x 2000000)] [(404, 404)] 404 405 kA jo = true := by kernel_rfl
def Gk : LK := [(.bin .lss (.x 1) (.x 2), .b true), (.el (.x 2000000) (.x 1) 1 0, .x 12), (.rl (.x 2000002) 1, .x 13)]
def lh33 : LH := ⟨4, 404, 434, [], [(404, .r 2000002 9 1 false)]⟩
def lf33 : LF := ⟨8888888, 0, [(0, .x 12)], [], .normal, [(0, .sr 404)], some lh33⟩
def lh34 : LH := ⟨4, 405, 435, [], [(405, .r 2000002 9 1 false)]⟩
def lf34 : LF := ⟨8888888, 0, [(0, .x 12)], [], .normal, [(0, .sr 405)], some lh34⟩
def lh35 : LH := ⟨4, 504, 516, [(405, .r 2000002 9 1 false)], []⟩
def lf35 : LF := ⟨5, 31, [(2, .x 0), (20, .sr 405), (22, I6 0), (21, .x 13)], [0, 1, 8, 11, 12, 13, 14, 15, 16], .ret, [(6, .b true)], some lh35⟩
noncomputable def aP4 : Tab := bI ((aV Gk)) 34 iy [lf34]
def bH5 : List LF := [lf35]
theorem bqHa1_p2_5 : cS eu 0 = pe := by kernel_rfl
theorem kqHa1_p2_5 : cU (br eu) 5 0 0 = true := by kernel_rfl
theorem runHa1_p2 : bn (code aP4 4000 bH5 eu (bc (bf kA eC) 31) ⟨ay jo .leaf, 405, 0, 0⟩) .ret eC 31 544 [] [] 404 544 [(6, .b true)] [] = true := by kernel_rfl
def Gj : LK := [(.bin .lss (.x 1) (.x 2), .b false)]
theorem runHa1_p3 : bH1 Gj (.exit 0) [] [] 544 [] [] = true := by kernel_rfl
section
variable {V : List LB} {wd : LB} {i : Int} {X : Nat → Value}
theorem aR9 (hI : jN V wd (0, i)) (h0 : i < (V.length : Int)) (h1 : (bD [] (List.getD V i.toNat [])).length = 0) : nQ V wd E' x' e' h' (0, i) X := by
  obtain ⟨i0, i1, i2, i3, i4, it⟩ := ve V wd 0 i hI
  have hgd := dN i4.2 i.toNat
  have := oF (List.getD V i.toNat [])
  have ho : ∀ a' r', (a', r') ∈ Gm → aL (iL V wd i X) a' r' := by
    unfold Gm
    exact hc (ba rfl rfl (by omega)) <|hc (gP (j := i.toNat) (aA rfl) (aA rfl) (aE rfl) (by omega) (by first | omega | (simp <;> omega))) <|hc (bO rfl rfl (by omega)) <|hnil
  exact aX2 (tb := aP6) (L := bH7) (0, (i + 1)) (ar.lp2 ((ae _ _).hyps ho) (by omega) mr lN (bH (.inr ⟨⟨rfl, rfl⟩, Ib, pb (l := lf28) (l' := lf29) (h := lh28) (h' := lh29) (q := (0, .aq)) (q' := (0, .aq)) (ids := []) (sg := [] ++ sgJ 4 401) (cfLsa_0 (l := lf28) (h := lh28) (q := (0, .aq)) (List.getD V i.toNat []) (by omega) (by assumption) rfl rfl (by kernel_rfl) (ao := [(0, .x 4)]) (aj := []) (aB (v := St' (List.getD V i.toNat [])) rfl rfl (aI)) (by kernel_rfl) (ak := []) (aI) (by kernel_rfl)) rfl rfl rfl rfl (by kernel_rfl) (by kernel_rfl)⟩) bE)) (mX bE) rfl (yG ⟨by omega, by omega, i2, AB i0 (by omega) i3 (any_0 (by assumption)), i4, by omega⟩) (by show V.length - (i + 1).toNat < V.length - i.toNat; omega) (aB (v := St' wd) rfl rfl (bT (b := ((i + 1))) rfl rfl (by omega) (aB (v := .int .i64 ((V.length : Int))) rfl rfl (aB (v := aO V) rfl rfl (aI))))) runHa1_p0
theorem aR8 (hI : jN V wd (0, i)) (h0 : i < (V.length : Int)) (h1 : ¬ ((bD [] (List.getD V i.toNat [])).length = 0)) (h2 : ¬ (cu (bD [] (List.getD V i.toNat [])) wd = true)) : nQ V wd E' x' e' h' (0, i) X := by
  obtain ⟨i0, i1, i2, i3, i4, it⟩ := ve V wd 0 i hI
  have hgd := dN i4.2 i.toNat
  have := oF (List.getD V i.toNat [])
  have hlm : ∀ q, q ∈ bD [] (List.getD V i.toNat []) → q.length ≤ 1000 := fun q hq => by have := oE _ _ q hq; simp only [List.length_nil] at this; omega
  have ho : ∀ a' r', (a', r') ∈ Gl → aL (iL V wd i X) a' r' := by
    unfold Gl
    exact hc (ba rfl rfl (by omega)) <|hc (gP (j := i.toNat) (aA rfl) (aA rfl) (aE rfl) (by omega) (by first | omega | (simp <;> omega))) <|hc (eK (aA rfl) (aE rfl) (by first | omega | (simp <;> omega))) <|hc (bO rfl rfl (by omega)) <|hnil
  exact aX2 (tb := aP5) (L := bH6) (0, (i + 1)) (ar.lp2 ((ae _ _).hyps ho) (by omega) mr lN (bH (.inr ⟨⟨rfl, rfl⟩, Ib, pb (l := lf30) (l' := lf31) (h := lh30) (h' := lh31) (q := (0, .sr 404)) (q' := (0, .sr 405)) (ids := [2000001]) (sg := [(405, 404)] ++ sgJ 4 401) (bG3 (l := lf30) (h := lh30) (q := (0, .sr 404)) (List.getD V i.toNat []) (by omega) (by assumption) rfl rfl (by kernel_rfl) (ao := [(0, .x 7)]) (aj := []) (aB (v := St' (List.getD V i.toNat [])) rfl rfl (aI)) (by kernel_rfl) (ak := [(2000001, .x 2000000)]) (aB (v := aO (bD [] (List.getD V i.toNat []))) rfl rfl (aI)) (by kernel_rfl)) rfl rfl rfl rfl (by kernel_rfl) (by kernel_rfl)⟩) bE)) (mX (bH (bR rfl ⟨0, kqHa1_p1_5, yZ bqHa1_p1_5 (ax.use (l := lf32) (h := lh32) (lfOkHa2_0 (bD [] (List.getD V i.toNat [])) wd (Bool.eq_false_iff.2 (by assumption))) (0, (0 : Int)) (Di ⟨by omega, by omega, by omega, rfl, ⟨by omega, hlm⟩, by omega⟩) rfl (by kernel_rfl) (ao := [(0, .x 0), (1, I6 0), (2, .x 8), (2000000, .x 2000001)]) (aj := [(504, 405)]) (fun X => aB (v := St' wd) rfl rfl (bK (show Is _ (I6 0) (.int .i64 ((0 : Int))) from bL (v := .int .i64 0) (bP _ _) (by first | rfl | (congr 1; omega))) (aB (v := .int .i64 (((bD [] (List.getD V i.toNat [])).length : Int))) rfl rfl (aB (v := aO (bD [] (List.getD V i.toNat []))) rfl rfl (aI))))) (by kernel_rfl) (ak := [(9, .x 0)]) (aB (v := St' wd) rfl rfl (aI)) (by kernel_rfl))⟩) bE)) rfl (yG ⟨by omega, by omega, i2, AB i0 (by omega) i3 (Bool.eq_false_iff.2 (by assumption)), i4, by omega⟩) (by show V.length - (i + 1).toNat < V.length - i.toNat; omega) (aB (v := St' wd) rfl rfl (bT (b := ((i + 1))) rfl rfl (by omega) (aB (v := .int .i64 ((V.length : Int))) rfl rfl (aB (v := aO V) rfl rfl (aI))))) runHa1_p1
end
def aT5 (V : List LB) (wd : LB) : List Value := []
def roEHa1_0 (V : List LB) (wd : LB) : List Value := []
noncomputable def EHa1_0 (V : List LB) (wd : LB) : Cx := cx (af (aT5 V wd) (rX (roEHa1_0 V wd) (fun _ => .bool true))) (ah (aQ (l := aT5 V wd) rfl)) 1 aC aG
theorem roundsHa1_0 (V : List LB) (wd : LB) (x0 : bx V wd = false) (st : Nat × Int) (X : Nat → Value) (hI : jN V wd st) : nQ V wd (EHa1_0 V wd) (.exit 0) [] [] st X := by
  obtain ⟨tag, i⟩ := st
  have hI0 := hI
  obtain ⟨i0, i1, i2, i3, i4, it⟩ := ve V wd tag i hI
  obtain rfl : tag = 0 := by omega
  skip
  have hgd := dN i4.2 i.toNat
  by_cases h0 : i < (V.length : Int)
  · by_cases h1 : (bD [] (List.getD V i.toNat [])).length = 0
    · exact aR9 hI0 h0 h1
    · by_cases h2 : cu (bD [] (List.getD V i.toNat [])) wd = true
      · exfalso; have hC := has_y (wd := wd) i0 (by omega) (by assumption); rw [x0] at hC; cases hC
      · exact aR8 hI0 h0 h1 h2
  · skip
    have hgd := dN i4.2 i.toNat
    refine lvHa1_0 (h := Gj) rfl ?_ (aI) runHa1_p3
    unfold Gj
    exact hc (dB rfl rfl (by omega)) <|hnil
theorem lfOkHa1_0 (V : List LB) (wd : LB) (x0 : bx V wd = false) : ax (cx nu one 1 aC aG) (EHa1_0 V wd) eu eC 31 (.exit 0) 4 404 405 544 pZ zw [] [] (jN V wd) (Bp V wd) :=
  cF (ri V wd) (fun _ _ => rfl) (fun _ _ => rfl) (fun _ _ => rfl) (fun st X t ht => cE.trans (cD ((by decide : ∀ t, t ∈ eC → t < 1000000) t ht))) rfl rfl rfl ebHa1 rfl rfl (roundsHa1_0 V wd x0)
def aT4 (V : List LB) (wd : LB) : List Value := []
def roEHa1_1 (V : List LB) (wd : LB) : List Value := []
noncomputable def EHa1_1 (V : List LB) (wd : LB) : Cx := cx (af (aT4 V wd) (rX (roEHa1_1 V wd) (fun _ => .bool true))) (ah (aQ (l := aT4 V wd) rfl)) 1 aC aG
theorem roundsHa1_1 (V : List LB) (wd : LB) (x0 : bx V wd = true) (st : Nat × Int) (X : Nat → Value) (hI : jN V wd st) : nQ V wd (EHa1_1 V wd) .ret [(6, .b true)] [] st X := by
  obtain ⟨tag, i⟩ := st
  have hI0 := hI
  obtain ⟨i0, i1, i2, i3, i4, it⟩ := ve V wd tag i hI
  obtain rfl : tag = 0 := by omega
  skip
  have hgd := dN i4.2 i.toNat
  by_cases h0 : i < (V.length : Int)
  · by_cases h1 : (bD [] (List.getD V i.toNat [])).length = 0
    · exact aR9 hI0 h0 h1
    · by_cases h2 : cu (bD [] (List.getD V i.toNat [])) wd = true
      · skip
        have hgd := dN i4.2 i.toNat
        have := oF (List.getD V i.toNat [])
        have hlm : ∀ q, q ∈ bD [] (List.getD V i.toNat []) → q.length ≤ 1000 := fun q hq => by have := oE _ _ q hq; simp only [List.length_nil] at this; omega
        have ho : ∀ a' r', (a', r') ∈ Gk → aL (iL V wd i X) a' r' := by
          unfold Gk
          exact hc (ba rfl rfl (by omega)) <|hc (gP (j := i.toNat) (aA rfl) (aA rfl) (aE rfl) (by omega) (by first | omega | (simp <;> omega))) <|hc (eK (aA rfl) (aE rfl) (by first | omega | (simp <;> omega))) <|hnil
        exact lLHa1_0 (tb := aP4) (L := bH5) rfl (ar.lp2 ((ae _ _).hyps ho) (by omega) mr lN (bH (.inr ⟨⟨rfl, rfl⟩, Ib, pb (l := lf33) (l' := lf34) (h := lh33) (h' := lh34) (q := (0, .sr 404)) (q' := (0, .sr 405)) (ids := [2000002]) (sg := [(405, 404)] ++ sgJ 4 401) (bG3 (l := lf33) (h := lh33) (q := (0, .sr 404)) (List.getD V i.toNat []) (by omega) (by assumption) rfl rfl (by kernel_rfl) (ao := [(0, .x 12)]) (aj := []) (aB (v := St' (List.getD V i.toNat [])) rfl rfl (aI)) (by kernel_rfl) (ak := [(2000002, .x 2000000)]) (aB (v := aO (bD [] (List.getD V i.toNat []))) rfl rfl (aI)) (by kernel_rfl)) rfl rfl rfl rfl (by kernel_rfl) (by kernel_rfl)⟩) bE)) (mX (bH (bR rfl ⟨0, kqHa1_p2_5, yZ bqHa1_p2_5 (ax.use (l := lf35) (h := lh35) (lfOkHa2_1 (bD [] (List.getD V i.toNat [])) wd (by assumption)) (0, (0 : Int)) (Di ⟨by omega, by omega, by omega, rfl, ⟨by omega, hlm⟩, by omega⟩) rfl (by kernel_rfl) (ao := [(0, .x 0), (1, I6 0), (2, .x 13), (2000000, .x 2000002)]) (aj := [(504, 405)]) (fun X => aB (v := St' wd) rfl rfl (bK (show Is _ (I6 0) (.int .i64 ((0 : Int))) from bL (v := .int .i64 0) (bP _ _) (by first | rfl | (congr 1; omega))) (aB (v := .int .i64 (((bD [] (List.getD V i.toNat [])).length : Int))) rfl rfl (aB (v := aO (bD [] (List.getD V i.toNat []))) rfl rfl (aI))))) (by kernel_rfl) (ak := []) (aI) (by kernel_rfl))⟩) bE)) rfl (aI) runHa1_p2
      · exact aR8 hI0 h0 h1 h2
  · exfalso; have hC := has_e (by omega) i3; rw [x0] at hC; cases hC
theorem lfOkHa1_1 (V : List LB) (wd : LB) (x0 : bx V wd = true) : ax (cx nu one 1 aC aG) (EHa1_1 V wd) eu eC 31 .ret 4 404 405 544 pZ zw [(6, .b true)] [] (jN V wd) (Bp V wd) :=
  cF (ri V wd) (fun _ _ => rfl) (fun _ _ => rfl) (fun _ _ => rfl) (fun st X t ht => cE.trans (cD ((by decide : ∀ t, t ∈ eC → t < 1000000) t ht))) rfl rfl rfl ebHa1 rfl rfl (roundsHa1_1 V wd x0)
noncomputable def lR : FI := (bB.fn.get 10).getD default
theorem pI : bB.fn.get 10 = some lR := by kernel_rfl
theorem pH : lR.body = some (Tryd.f10.body.getD .skip) := by kernel_rfl
def BO : List AV := [.sr 4, .x 0, .x 1]
def sq : LE := [(4, .r 2000000 23 2 true)]
def nuHasA (z : List (LB × LB)) (nm wd : LB) : List Value := [St' nm, St' wd, St' ([] : LB), .int .i64 ((z.length : Int)), .int .i64 (((av nm z).length : Int)), St' ([] : LB), .int .i64 ((z.length : Int)), .int .i64 (((av nm z).length : Int)), St' ([] : LB), .int .i64 ((z.length : Int))]
def roHasA (z : List (LB × LB)) (nm wd : LB) : List Value := [aM aK z, aO ([] : List LB), aM aK z, aO (av nm z), aO ([] : List LB), aM aK z, aO (av nm z), aO ([] : List LB), aM aK z]
noncomputable def nV (z : List (LB × LB)) (nm wd : LB) : Cx := cx (af (nuHasA z nm wd) (rX (roHasA z nm wd) (fun _ => .bool true))) (ah (aQ (l := nuHasA z nm wd) rfl)) 1 aC aG
def Ge : LK := [(.rl (.x 2000000) 2, .x 3), (.rl (.x 2000003) 1, .x 4)]
def lh27 : LH := ⟨4, 104, 144, [(4, .r 2000000 23 2 true)], [(4, .r 2000002 23 2 true), (104, .r 2000003 9 1 false)]⟩
def lf27 : LF := ⟨3, 25, [(1, .x 0), (5, .aq), (8, .sr 4), (10, I6 0), (9, .x 3)], [], (.exit 0), [(5, .sr 104)], some lh27⟩
def lh36 : LH := ⟨4, 404, 544, [(104, .r 2000003 9 1 false)], []⟩
def lf36 : LF := ⟨2, 31, [(2, .x 1), (13, .sr 104), (15, I6 0), (14, .x 4)], [], .ret, [(6, .b true)], some lh36⟩
noncomputable def aJ1 : Tab := bI (bI ((aV Ge)) 10 lR [lf27]) 16 lP [lf36]
theorem runHasA_c0 (e : Unit) : fA (call aJ1 3000 16 BO ⟨ay sq ((fun _ : Unit => T.leaf) e), 84, 0, 0⟩) (.x 0) [(0, .b true), (2000000, .x 2000002)] [] 84 704 [(4, .r 2000000 23 2 true)] = true := by kernel_rfl
def Gd : LK := [(.rl (.x 2000000) 2, .x 6), (.rl (.x 2000006) 1, .x 7)]
def lh37 : LH := ⟨4, 104, 144, [(4, .r 2000000 23 2 true)], [(4, .r 2000005 23 2 true), (104, .r 2000006 9 1 false)]⟩
def lf37 : LF := ⟨3, 25, [(1, .x 0), (5, .aq), (8, .sr 4), (10, I6 0), (9, .x 6)], [], (.exit 0), [(5, .sr 104)], some lh37⟩
def lh38 : LH := ⟨4, 404, 544, [(104, .r 2000006 9 1 false)], []⟩
def lf38 : LF := ⟨2, 31, [(2, .x 1), (13, .sr 104), (15, I6 0), (14, .x 7)], [], (.exit 0), [], some lh38⟩
noncomputable def aJ0 : Tab := bI (bI ((aV Gd)) 10 lR [lf37]) 16 lP [lf38]
theorem runHasA_c1 (e : Unit) : fA (call aJ0 3000 16 BO ⟨ay sq ((fun _ : Unit => T.leaf) e), 84, 0, 0⟩) (.x 0) [(0, .b false), (2000000, .x 2000005)] [] 84 704 [(4, .r 2000000 23 2 true)] = true := by kernel_rfl
def Gc : LK := [(.rl (.x 2000000) 2, .x 9)]
def lh39 : LH := ⟨4, 104, 144, [(4, .r 2000000 23 2 true)], [(4, .r 2000008 23 2 true)]⟩
def lf39 : LF := ⟨3, 25, [(1, .x 0), (5, .aq), (8, .sr 4), (10, I6 0), (9, .x 9)], [], (.exit 0), [(5, .aq)], some lh39⟩
noncomputable def aI9 : Tab := bI ((aV Gc)) 10 lR [lf39]
theorem runHasA_c2 (e : Unit) : fA (call aI9 3000 16 BO ⟨ay sq ((fun _ : Unit => T.leaf) e), 84, 0, 0⟩) (.x 0) [(0, .b false), (2000000, .x 2000008)] [] 84 704 [(4, .r 2000000 23 2 true)] = true := by kernel_rfl
def aK5 (z : List (LB × LB)) (nm wd : LB) : List Value := [.bool (bx (av nm z) wd)]
def roEHasA_0 (z : List (LB × LB)) (nm wd : LB) : List Value := [aM aK z]
noncomputable def Bf (z : List (LB × LB)) (nm wd : LB) : Cx := cx (af (aK5 z nm wd) (rX (roEHasA_0 z nm wd) (fun _ => .bool true))) (ah (aQ (l := aK5 z nm wd) rfl)) 1 aC aG
theorem IZ {l : LF} {h : LH} {q : Nat × AV} (z : List (LB × LB)) (nm wd : LB) (p0 : 1 ≤ z.length) (p1 : z.length ≤ 20) (p2 : ∀ q, q ∈ z → dH q) (p3 : ∀ q, q ∈ z → q.1.length ≤ 140737488351232) (p4 : ∀ q, q ∈ z → q.2.length ≤ 800) (p5 : nm.length ≤ 100) (p6 : wd.length ≤ 100) (hl : l.hp = some h) (hq : l.post = [q]) (hs : lX l h 4 84 704 = true) {ao : LA} {aj : List (Nat × Nat)} (cq : aw (cx nu one 1 aC aG) (nV z nm wd) ao) (h0 : (iu ao (cb 84 84 aj) BO (l.pre.map (·.2)) && cf 84 84 ao aj (ay h.pre .leaf) sq && cd (numsOf 84 aj sq)) = true) {ak : LA} (cn : aw (Bf z nm wd) (cx nu one 1 aC aG) ak) (hx : (inA ak (cb 84 704 []) 8 q.2 (.x 0) && cf 84 704 ak [] (ay [(4, .r 2000000 23 2 true)] .leaf) h.post && cd (numsOf 84 [] h.post)) = true) : ey (cx nu one 1 aC aG) 16 l := by
  by_cases d0 : av nm z = []
  · skip
    have := eL nm z
    have ho : ∀ a' r', (a', r') ∈ Gc → aL (nV z nm wd) a' r' := by
      unfold Gc
      exact hc (bu a7 (aA rfl) (aE rfl) (by first | omega | (simp <;> omega))) <|hnil
    exact ga (D := nV z nm wd) (E := Bf z nm wd) (Gf := (fun _ : Unit => T.leaf)) (f := 3000) (tb := aI9) rfl rfl rfl rfl rfl rfl hl hq hs rfl cq h0 cn hx (ar.bS ((ae _ _).hyps ho) (by omega) pI pH (bH (bR rfl ⟨0, oL, ax.use (l := lf39) (h := lh39) (aA9 z nm (by first | assumption | (exact List.length_pos_iff.2 (by assumption)))) (0, (0 : Int), ([] : List LB)) (iT ⟨by omega, by omega, by omega, by assumption, ⟨by omega, by assumption⟩, rfl, fun _ => rfl, fun h => by omega, by omega⟩) rfl (by kernel_rfl) (ao := [(0, .x 0), (1, .x 9), (2, I6 0), (2000000, .x 2000000)]) (aj := []) (fun X => aB (v := St' nm) rfl rfl (aB (v := .int .i64 ((z.length : Int))) rfl rfl (bK (show Is _ (I6 0) (.int .i64 ((0 : Int))) from bL (v := .int .i64 0) (bP _ _) (by first | rfl | (congr 1; omega))) (aB (v := aM aK z) rfl rfl (aI))))) (by kernel_rfl) (ak := [(2000008, .x 2000000)]) (aB (v := aM aK z) rfl rfl (aI)) (by kernel_rfl)⟩) bE)) rfl (aS (by omega) (by omega) o9) Ht (.inl ⟨fun _ => rfl, ⟨()⟩⟩) (bK (show Is _ (.b false) (.bool (bx (av nm z) wd)) from bL (v := .bool false) (oZ) (congrArg Value.bool (He (wd := wd) (V := av nm z) (by assumption)).symm)) (aB (v := aM aK z) rfl rfl (aI))) runHasA_c2
  · by_cases d1 : bx (av nm z) wd = true
    · skip
      have := eL nm z
      have ho : ∀ a' r', (a', r') ∈ Ge → aL (nV z nm wd) a' r' := by
        unfold Ge
        exact hc (bu a7 (aA rfl) (aE rfl) (by first | omega | (simp <;> omega))) <|hc (eK (aA rfl) (aE rfl) (by first | omega | (simp <;> omega))) <|hnil
      exact ga (D := nV z nm wd) (E := Bf z nm wd) (Gf := (fun _ : Unit => T.leaf)) (f := 3000) (tb := aJ1) rfl rfl rfl rfl rfl rfl hl hq hs rfl cq h0 cn hx (ar.bS (ar.bS ((ae _ _).hyps ho) (by omega) pI pH (bH (bR rfl ⟨0, oL, ax.use (l := lf27) (h := lh27) (yb z nm (by first | assumption | (exact List.length_pos_iff.2 (by assumption)))) (0, (0 : Int), ([] : List LB)) (iT ⟨by omega, by omega, by omega, by assumption, ⟨by omega, by assumption⟩, rfl, fun _ => rfl, fun h => by omega, by omega⟩) rfl (by kernel_rfl) (ao := [(0, .x 0), (1, .x 3), (2, I6 0), (2000000, .x 2000000)]) (aj := []) (fun X => aB (v := St' nm) rfl rfl (aB (v := .int .i64 ((z.length : Int))) rfl rfl (bK (show Is _ (I6 0) (.int .i64 ((0 : Int))) from bL (v := .int .i64 0) (bP _ _) (by first | rfl | (congr 1; omega))) (aB (v := aM aK z) rfl rfl (aI))))) (by kernel_rfl) (ak := [(2000002, .x 2000000), (2000003, .x 2000001)]) (aB (v := aM aK z) rfl rfl (aB (v := aO (av nm z)) rfl rfl (aI))) (by kernel_rfl)⟩) bE)) (by omega) (aS (by omega) (by omega) o9) o8 (bH (bR rfl ⟨0, keyHa1, ax.use (l := lf36) (h := lh36) (lfOkHa1_1 (av nm z) wd (by assumption)) (0, (0 : Int)) (yG ⟨by omega, by omega, by omega, rfl, ⟨by omega, AH (by assumption)⟩, by omega⟩) rfl (by kernel_rfl) (ao := [(0, .x 1), (1, I6 0), (2, .x 4), (2000000, .x 2000003)]) (aj := [(404, 104)]) (fun X => aB (v := St' wd) rfl rfl (bK (show Is _ (I6 0) (.int .i64 ((0 : Int))) from bL (v := .int .i64 0) (bP _ _) (by first | rfl | (congr 1; omega))) (aB (v := .int .i64 (((av nm z).length : Int))) rfl rfl (aB (v := aO (av nm z)) rfl rfl (aI))))) (by kernel_rfl) (ak := []) (aI) (by kernel_rfl)⟩) bE)) rfl (cP (by omega)) Ht (.inl ⟨fun _ => rfl, ⟨()⟩⟩) (bK (show Is _ (.b true) (.bool (bx (av nm z) wd)) from bL (v := .bool true) (oZ) (congrArg Value.bool ((by assumption : bx (av nm z) wd = true)).symm)) (aB (v := aM aK z) rfl rfl (aI))) runHasA_c0
    · skip
      have := eL nm z
      have ho : ∀ a' r', (a', r') ∈ Gd → aL (nV z nm wd) a' r' := by
        unfold Gd
        exact hc (bu a7 (aA rfl) (aE rfl) (by first | omega | (simp <;> omega))) <|hc (eK (aA rfl) (aE rfl) (by first | omega | (simp <;> omega))) <|hnil
      exact ga (D := nV z nm wd) (E := Bf z nm wd) (Gf := (fun _ : Unit => T.leaf)) (f := 3000) (tb := aJ0) rfl rfl rfl rfl rfl rfl hl hq hs rfl cq h0 cn hx (ar.bS (ar.bS ((ae _ _).hyps ho) (by omega) pI pH (bH (bR rfl ⟨0, oL, ax.use (l := lf37) (h := lh37) (yb z nm (by first | assumption | (exact List.length_pos_iff.2 (by assumption)))) (0, (0 : Int), ([] : List LB)) (iT ⟨by omega, by omega, by omega, by assumption, ⟨by omega, by assumption⟩, rfl, fun _ => rfl, fun h => by omega, by omega⟩) rfl (by kernel_rfl) (ao := [(0, .x 0), (1, .x 6), (2, I6 0), (2000000, .x 2000000)]) (aj := []) (fun X => aB (v := St' nm) rfl rfl (aB (v := .int .i64 ((z.length : Int))) rfl rfl (bK (show Is _ (I6 0) (.int .i64 ((0 : Int))) from bL (v := .int .i64 0) (bP _ _) (by first | rfl | (congr 1; omega))) (aB (v := aM aK z) rfl rfl (aI))))) (by kernel_rfl) (ak := [(2000005, .x 2000000), (2000006, .x 2000001)]) (aB (v := aM aK z) rfl rfl (aB (v := aO (av nm z)) rfl rfl (aI))) (by kernel_rfl)⟩) bE)) (by omega) (aS (by omega) (by omega) o9) o8 (bH (bR rfl ⟨0, keyHa1, ax.use (l := lf38) (h := lh38) (lfOkHa1_0 (av nm z) wd (Bool.eq_false_iff.2 (by assumption))) (0, (0 : Int)) (yG ⟨by omega, by omega, by omega, rfl, ⟨by omega, AH (by assumption)⟩, by omega⟩) rfl (by kernel_rfl) (ao := [(0, .x 1), (1, I6 0), (2, .x 7), (2000000, .x 2000006)]) (aj := [(404, 104)]) (fun X => aB (v := St' wd) rfl rfl (bK (show Is _ (I6 0) (.int .i64 ((0 : Int))) from bL (v := .int .i64 0) (bP _ _) (by first | rfl | (congr 1; omega))) (aB (v := .int .i64 (((av nm z).length : Int))) rfl rfl (aB (v := aO (av nm z)) rfl rfl (aI))))) (by kernel_rfl) (ak := []) (aI) (by kernel_rfl)⟩) bE)) rfl (cP (by omega)) Ht (.inl ⟨fun _ => rfl, ⟨()⟩⟩) (bK (show Is _ (.b false) (.bool (bx (av nm z) wd)) from bL (v := .bool false) (oZ) (congrArg Value.bool (Bool.eq_false_iff.2 (by assumption)).symm)) (aB (v := aM aK z) rfl rfl (aI))) runHasA_c1
noncomputable def pd : Code := cS (Tryd.f17.body.getD .skip) 1
def lA : List Nat := [0, 1, 7, 8, 11, 12, 13]
def IH : LA := [(2, .x 0), (9, .sr 804), (10, .x 1)]
def HR : LE := [(804, .r 2000000 9 1 false)]
def xU (W : List LB) (wd : LB) (i : Int) : List Value := [St' wd, .int .i64 (i), St' ([] : LB), .int .i64 ((W.length : Int)), St' (List.getD W i.toNat []), St' (aN (List.getD W i.toNat [])), St' (aN wd), St' ([] : LB), .int .i64 ((W.length : Int)), St' (List.getD W i.toNat []), St' (aN (List.getD W i.toNat [])), St' (aN wd), .int .i64 (i + 1), St' ([] : LB), .int .i64 ((W.length : Int))]
def aY0 (W : List LB) (wd : LB) (i : Int) : List Value := [aO W]
def pW (st : Nat × Int) : LA := IH
def zr (st : Nat × Int) : LE := HR
def DQ (W : List LB) (wd : LB) (st : Nat × Int) : List Value := xU W wd (st.2)
def roHr2 (W : List LB) (wd : LB) (st : Nat × Int) : List Value := aY0 W wd (st.2)
theorem onHr2 (W : List LB) (wd : LB) (st : Nat × Int) : ∀ j, (ai (DQ W wd st) j).oneCell' = true := by
  intro j
  unfold DQ
  exact aQ (l := xU W wd (st.2)) rfl j
theorem ebHr2 (st : Nat × Int) : (cG (pW st) && cO lA) = true := by
  unfold pW
  rfl
noncomputable def Bm (W : List LB) (wd : LB) (st : Nat × Int) (X : Nat → Value) : Cx := cx (af (DQ W wd st) (rX (roHr2 W wd st) X)) (ah (onHr2 W wd st)) 1 aC aG
abbrev JU (W : List LB) (wd : LB) (tag : Nat) (i : Int) : Prop := (0 ≤ i) ∧ (i ≤ (W.length : Int)) ∧ (W.length ≤ 2000) ∧ (cu (W.take i.toNat) wd = false) ∧ (wd.length ≤ 1000 ∧ ∀ q, q ∈ W → q.length ≤ 1000) ∧ (tag < 1)
def kL (W : List LB) (wd : LB) (st : Nat × Int) : Prop := JU W wd st.1 (st.2)
theorem Dh {W : List LB} {wd : LB} {tag : Nat} {i : Int} (h : JU W wd tag i) : kL W wd (tag, i) := h
theorem Ca (W : List LB) (wd : LB) (tag : Nat) (i : Int) (h : kL W wd (tag, i)) : JU W wd tag i := h
def rY (W : List LB) (wd : LB) (st : Nat × Int) : Nat := (W.length - (st.2).toNat)
abbrev u6 (W : List LB) (wd : LB) (E' : Cx) (ex' : Ex) (epx' : LA) (hpx' : LE) (st : Nat × Int) (X : Nat → Value) : Prop := a6 E' pd lA 39 ex' 4 804 805 816 pW zr epx' hpx' (kL W wd) (rY W wd) (Bm W wd) st X
noncomputable abbrev CB (W : List LB) (wd : LB) (i : Int) (X : Nat → Value) : Cx := cx (af (xU W wd i) (rX (aY0 W wd i) X)) (ah (aQ (l := xU W wd i) rfl)) 1 aC aG
noncomputable abbrev uh (h : LK) (x : Ex) (th : LA) (sg : List (Nat × Nat)) (m : Nat) (ep : LA) (hp : LE) : Bool := bn (code (aV h) 3000 [] pd (bc (bf IH lA) 39) ⟨ay HR .leaf, 805, 0, 0⟩) x lA 39 816 th sg 804 m ep hp
theorem stHr2_0 {W : List LB} {wd : LB} {i : Int} {X : Nat → Value} {h : LK} (y : Nat × Int) {th : LA} {sg : List (Nat × Nat)} (ho : ∀ a' r', (a', r') ∈ h → aL (CB W wd i X) a' r') (hy : kL W wd y) (lt : rY W wd y < rY W wd (0, i)) (ht : aw (CB W wd i X) (Bm W wd y X) th) (run : uh h .normal th sg 805 (pW y) (zr y) = true) : u6 W wd E' x' e' h' (0, i) X :=
  a6.next (tb := aV h) (L := []) (f := 3000) y ((ae _ _).hyps ho) (bA.nil _) rfl hy lt ht run
theorem bE0 {W : List LB} {wd : LB} {i : Int} {X : Nat → Value} {h : LK} {th : LA} {sg : List (Nat × Nat)} (hne : cI x' .normal = false) (ho : ∀ a' r', (a', r') ∈ h → aL (CB W wd i X) a' r') (ht : aw (CB W wd i X) E' th) (run : uh h x' th sg 816 e' h' = true) : u6 W wd E' x' e' h' (0, i) X :=
  a6.leave (tb := aV h) (L := []) (f := 3000) ((ae _ _).hyps ho) (bA.nil _) rfl hne ht run
def GU : LK := [(.rl (.x 2000000) 1, .x 3), (.bin .lss (.x 1) (.x 3), .b true), (.el (.x 2000000) (.x 1) 1 0, .x 4), (.call 33 [.x 4], .x 5), (.call 33 [.x 0], .x 6), (.bin .eql (.x 5) (.x 6), .b true)]
theorem runHr2_p0 : uh GU .ret [] [] 816 [(6, .b true)] [] = true := by kernel_rfl
def GS : LK := [(.rl (.x 2000000) 1, .x 8), (.bin .lss (.x 1) (.x 8), .b true), (.el (.x 2000000) (.x 1) 1 0, .x 9), (.call 33 [.x 9], .x 10), (.call 33 [.x 0], .x 11), (.bin .eql (.x 10) (.x 11), .b false), (.bin .add (.x 1) (I6 1), .x 12)]
theorem runHr2_p1 : uh GS .normal [(0, .x 0), (1, .x 12), (2000000, .x 2000000)] [(804, 804)] 805 IH HR = true := by kernel_rfl
def GR : LK := [(.rl (.x 2000000) 1, .x 14), (.bin .lss (.x 1) (.x 14), .b false)]
theorem runHr2_p2 : uh GR (.exit 2) [(0, .x 0)] [] 816 [(2, .x 0)] [] = true := by kernel_rfl
section
variable {W : List LB} {wd : LB} {i : Int} {X : Nat → Value}
theorem aR4 (hI : kL W wd (0, i)) (h0 : i < (W.length : Int)) (h1 : ¬ ((aN (List.getD W i.toNat [])) = (aN wd))) : u6 W wd E' x' e' h' (0, i) X := by
  obtain ⟨i0, i1, i2, i3, i4, it⟩ := Ca W wd 0 i hI
  have hgd := dN i4.2 i.toNat
  have : (aN (List.getD W i.toNat [])).length = (List.getD W i.toNat []).length := List.length_map ..
  have : (aN wd).length = wd.length := List.length_map ..
  refine stHr2_0 (h := GS) (0, (i + 1)) ?_ (Dh ⟨by omega, by omega, i2, any_n i0 (by omega) i3 (by assumption), i4, by omega⟩) (by show W.length - (i + 1).toNat < W.length - i.toNat; omega) (aB (v := St' wd) rfl rfl (bT (b := ((i + 1))) rfl rfl (by omega) (aB (v := aO W) rfl rfl (aI)))) runHr2_p1
  unfold GS
  exact hc (eK (aA rfl) (aE rfl) (by first | omega | (simp <;> omega))) <|hc (ba rfl rfl (by omega)) <|hc (gP (j := i.toNat) (aA rfl) (aA rfl) (aE rfl) (by omega) (by first | omega | (simp <;> omega))) <|hc (db (s := (List.getD W i.toNat [])) (aA rfl) (aE rfl)) <|hc (db (s := wd) (aA rfl) (aE rfl)) <|hc (cH (aA rfl) (aA rfl) (by first | exact decide_eq_true rfl | exact decide_eq_true ‹_› | exact decide_eq_false ‹_›)) <|hc (bO rfl rfl (by omega)) <|hnil
end
def aS9 (W : List LB) (wd : LB) : List Value := [St' wd]
def roEHr2_0 (W : List LB) (wd : LB) : List Value := []
noncomputable def EHr2_0 (W : List LB) (wd : LB) : Cx := cx (af (aS9 W wd) (rX (roEHr2_0 W wd) (fun _ => .bool true))) (ah (aQ (l := aS9 W wd) rfl)) 1 aC aG
theorem roundsHr2_0 (W : List LB) (wd : LB) (x0 : cu W wd = false) (st : Nat × Int) (X : Nat → Value) (hI : kL W wd st) : u6 W wd (EHr2_0 W wd) (.exit 2) [(2, .x 0)] [] st X := by
  obtain ⟨tag, i⟩ := st
  have hI0 := hI
  obtain ⟨i0, i1, i2, i3, i4, it⟩ := Ca W wd tag i hI
  obtain rfl : tag = 0 := by omega
  skip
  have hgd := dN i4.2 i.toNat
  by_cases h0 : i < (W.length : Int)
  · by_cases h1 : (aN (List.getD W i.toNat [])) = (aN wd)
    · exfalso; have hC := any_y (wd := wd) i0 (by omega) (by assumption); rw [x0] at hC; cases hC
    · exact aR4 hI0 h0 h1
  · skip
    have hgd := dN i4.2 i.toNat
    refine bE0 (h := GR) rfl ?_ (aB (v := St' wd) rfl rfl (aI)) runHr2_p2
    unfold GR
    exact hc (eK (aA rfl) (aE rfl) (by first | omega | (simp <;> omega))) <|hc (dB rfl rfl (by omega)) <|hnil
theorem lfOkHr2_0 (W : List LB) (wd : LB) (x0 : cu W wd = false) : ax (cx nu one 1 aC aG) (EHr2_0 W wd) pd lA 39 (.exit 2) 4 804 805 816 pW zr [(2, .x 0)] [] (kL W wd) (Bm W wd) :=
  cF (rY W wd) (fun _ _ => rfl) (fun _ _ => rfl) (fun _ _ => rfl) (fun st X t ht => cE.trans (cD ((by decide : ∀ t, t ∈ lA → t < 1000000) t ht))) rfl rfl rfl ebHr2 rfl rfl (roundsHr2_0 W wd x0)
def aS8 (W : List LB) (wd : LB) : List Value := []
def roEHr2_1 (W : List LB) (wd : LB) : List Value := []
noncomputable def EHr2_1 (W : List LB) (wd : LB) : Cx := cx (af (aS8 W wd) (rX (roEHr2_1 W wd) (fun _ => .bool true))) (ah (aQ (l := aS8 W wd) rfl)) 1 aC aG
theorem roundsHr2_1 (W : List LB) (wd : LB) (x0 : cu W wd = true) (st : Nat × Int) (X : Nat → Value) (hI : kL W wd st) : u6 W wd (EHr2_1 W wd) .ret [(6, .b true)] [] st X := by
  obtain ⟨tag, i⟩ := st
  have hI0 := hI
  obtain ⟨i0, i1, i2, i3, i4, it⟩ := Ca W wd tag i hI
  obtain rfl : tag = 0 := by omega
  skip
  have hgd := dN i4.2 i.toNat
  by_cases h0 : i < (W.length : Int)
  · by_cases h1 : (aN (List.getD W i.toNat [])) = (aN wd)
    · skip
      have hgd := dN i4.2 i.toNat
      have : (aN (List.getD W i.toNat [])).length = (List.getD W i.toNat []).length := List.length_map ..
      have : (aN wd).length = wd.length := List.length_map ..
      refine bE0 (h := GU) rfl ?_ (aI) runHr2_p0
      unfold GU
      exact hc (eK (aA rfl) (aE rfl) (by first | omega | (simp <;> omega))) <|hc (ba rfl rfl (by omega)) <|hc (gP (j := i.toNat) (aA rfl) (aA rfl) (aE rfl) (by omega) (by first | omega | (simp <;> omega))) <|hc (db (s := (List.getD W i.toNat [])) (aA rfl) (aE rfl)) <|hc (db (s := wd) (aA rfl) (aE rfl)) <|hc (cH (aA rfl) (aA rfl) (by first | exact decide_eq_true rfl | exact decide_eq_true ‹_› | exact decide_eq_false ‹_›)) <|hnil
    · exact aR4 hI0 h0 h1
  · exfalso; have hC := any_e (by omega) i3; rw [x0] at hC; cases hC
theorem lfOkHr2_1 (W : List LB) (wd : LB) (x0 : cu W wd = true) : ax (cx nu one 1 aC aG) (EHr2_1 W wd) pd lA 39 .ret 4 804 805 816 pW zr [(6, .b true)] [] (kL W wd) (Bm W wd) :=
  cF (rY W wd) (fun _ _ => rfl) (fun _ _ => rfl) (fun _ _ => rfl) (fun st X t ht => cE.trans (cD ((by decide : ∀ t, t ∈ lA → t < 1000000) t ht))) rfl rfl rfl ebHr2 rfl rfl (roundsHr2_1 W wd x0)
noncomputable def lO : FI := (bB.fn.get 17).getD default
theorem o7 : bB.fn.get 17 = some lO := by kernel_rfl
theorem o6 : lO.body = some (Tryd.f17.body.getD .skip) := by kernel_rfl
theorem Hs : lO.body.isSome = true := by rw [o6]; rfl
theorem Ic : (br (Tryd.f17.body.getD .skip)).all (fun b => !(hM (Go.AX.keyOf b) 8888888)) = true := by kernel_rfl
noncomputable def er : Code := cS (Tryd.f17.body.getD .skip) 0
theorem keyHr1 : cU (br (Tryd.f17.body.getD .skip)) 3 0 0 = true := by kernel_rfl
def eB : List Nat := []
def j9 : LA := [(2, .x 0), (7, .sr 704), (8, .x 1)]
def jn : LE := [(704, .r 2000000 9 1 false)]
def xV (V : List LB) (wd : LB) (i : Int) : List Value := [St' wd, .int .i64 (i), St' ([] : LB), .int .i64 ((V.length : Int)), St' (List.getD V i.toNat []), .int .i64 (i + 1), St' ([] : LB), .int .i64 ((V.length : Int)), St' (List.getD V i.toNat []), St' wd, .int .i64 (i + 1), St' ([] : LB), .int .i64 ((V.length : Int)), St' (List.getD V i.toNat []), St' ([] : LB), .int .i64 ((V.length : Int))]
def aY1 (V : List LB) (wd : LB) (i : Int) : List Value := [aO V, aO (bD [] (List.getD V i.toNat [])), aO (bD [] (List.getD V i.toNat []))]
def pX (st : Nat × Int) : LA := j9
def zt (st : Nat × Int) : LE := jn
def DR (V : List LB) (wd : LB) (st : Nat × Int) : List Value := xV V wd (st.2)
def roHr1 (V : List LB) (wd : LB) (st : Nat × Int) : List Value := aY1 V wd (st.2)
theorem onHr1 (V : List LB) (wd : LB) (st : Nat × Int) : ∀ j, (ai (DR V wd st) j).oneCell' = true := by
  intro j
  unfold DR
  exact aQ (l := xV V wd (st.2)) rfl j
theorem ebHr1 (st : Nat × Int) : (cG (pX st) && cO eB) = true := by
  unfold pX
  rfl
noncomputable def Bn (V : List LB) (wd : LB) (st : Nat × Int) (X : Nat → Value) : Cx := cx (af (DR V wd st) (rX (roHr1 V wd st) X)) (ah (onHr1 V wd st)) 1 aC aG
abbrev JV (V : List LB) (wd : LB) (tag : Nat) (i : Int) : Prop := (0 ≤ i) ∧ (i ≤ (V.length : Int)) ∧ (V.length ≤ 2000) ∧ (bx (V.take i.toNat) wd = false) ∧ (wd.length ≤ 1000 ∧ ∀ q, q ∈ V → q.length ≤ 800) ∧ (tag < 1)
def jM (V : List LB) (wd : LB) (st : Nat × Int) : Prop := JV V wd st.1 (st.2)
theorem yF {V : List LB} {wd : LB} {tag : Nat} {i : Int} (h : JV V wd tag i) : jM V wd (tag, i) := h
theorem vd (V : List LB) (wd : LB) (tag : Nat) (i : Int) (h : jM V wd (tag, i)) : JV V wd tag i := h
def rZ (V : List LB) (wd : LB) (st : Nat × Int) : Nat := (V.length - (st.2).toNat)
abbrev nP (V : List LB) (wd : LB) (E' : Cx) (ex' : Ex) (epx' : LA) (hpx' : LE) (st : Nat × Int) (X : Nat → Value) : Prop := a6 E' er eB 39 ex' 4 704 705 844 pX zt epx' hpx' (jM V wd) (rZ V wd) (Bn V wd) st X
noncomputable abbrev iK (V : List LB) (wd : LB) (i : Int) (X : Nat → Value) : Cx := cx (af (xV V wd i) (rX (aY1 V wd i) X)) (ah (aQ (l := xV V wd i) rfl)) 1 aC aG
theorem aX1 {V : List LB} {wd : LB} {i : Int} {X : Nat → Value} {tb : Tab} {L : List LF} (y : Nat × Int) {th : LA} {sg : List (Nat × Nat)} (hall : ar (iK V wd i X) tb) (hlp : bA (iK V wd i X) L er) (aX : tb.ng = 4) (hy : jM V wd y) (lt : rZ V wd y < rZ V wd (0, i)) (ht : aw (iK V wd i X) (Bn V wd y X) th) (run : bn (code tb 4000 L er (bc (bf j9 eB) 39) ⟨ay jn .leaf, 705, 0, 0⟩) .normal eB 39 844 th sg 704 705 (pX y) (zt y) = true) : nP V wd E' x' e' h' (0, i) X :=
  a6.next (tb := tb) (L := L) (f := 4000) y hall hlp aX hy lt ht run
theorem lLHr1_0 {V : List LB} {wd : LB} {i : Int} {X : Nat → Value} {tb : Tab} {L : List LF} {th : LA} {sg : List (Nat × Nat)} (hne : cI x' .normal = false) (hall : ar (iK V wd i X) tb) (hlp : bA (iK V wd i X) L er) (aX : tb.ng = 4) (ht : aw (iK V wd i X) E' th) (run : bn (code tb 4000 L er (bc (bf j9 eB) 39) ⟨ay jn .leaf, 705, 0, 0⟩) x' eB 39 844 th sg 704 844 e' h' = true) : nP V wd E' x' e' h' (0, i) X :=
  a6.leave (tb := tb) (L := L) (f := 4000) hall hlp aX hne ht run
noncomputable abbrev bH0 (h : LK) (x : Ex) (th : LA) (sg : List (Nat × Nat)) (m : Nat) (ep : LA) (hp : LE) : Bool := bn (code (aV h) 4000 [] er (bc (bf j9 eB) 39) ⟨ay jn .leaf, 705, 0, 0⟩) x eB 39 844 th sg 704 m ep hp
theorem lvHr1_0 {V : List LB} {wd : LB} {i : Int} {X : Nat → Value} {h : LK} {th : LA} {sg : List (Nat × Nat)} (hne : cI x' .normal = false) (ho : ∀ a' r', (a', r') ∈ h → aL (iK V wd i X) a' r') (ht : aw (iK V wd i X) E' th) (run : bH0 h x' th sg 844 e' h' = true) : nP V wd E' x' e' h' (0, i) X :=
  a6.leave (tb := aV h) (L := []) (f := 4000) ((ae _ _).hyps ho) (bA.nil _) rfl hne ht run
def GY : LK := [(.rl (.x 2000000) 1, .x 3), (.bin .lss (.x 1) (.x 3), .b true), (.el (.x 2000000) (.x 1) 1 0, .x 4), (.bin .add (.x 1) (I6 1), .x 5)]
def lh43 : LH := ⟨4, 404, 424, [], []⟩
def lf43 : LF := ⟨8888888, 0, [(0, .x 4)], [], .normal, [(0, .aq)], some lh43⟩
def lh44 : LH := ⟨4, 705, 725, [], []⟩
def lf44 : LF := ⟨8888888, 0, [(0, .x 4)], [], .normal, [(0, .aq)], some lh44⟩
noncomputable def aP3 : Tab := bI ((aV GY)) 35 lM [lf44]
def bH4 : List LF := []
theorem runHr1_p0 : bn (code aP3 4000 bH4 er (bc (bf j9 eB) 39) ⟨ay jn .leaf, 705, 0, 0⟩) .normal eB 39 844 [(0, .x 0), (1, .x 5), (2000000, .x 2000000)] [(704, 704)] 704 705 j9 jn = true := by kernel_rfl
def GX : LK := [(.rl (.x 2000000) 1, .x 7), (.bin .lss (.x 1) (.x 7), .b true), (.el (.x 2000000) (.x 1) 1 0, .x 8), (.bin .add (.x 1) (I6 1), .x 10)]
def lh45 : LH := ⟨4, 404, 424, [], [(404, .r 2000001 9 1 false)]⟩
def lf45 : LF := ⟨8888888, 0, [(0, .x 8)], [], .normal, [(0, .sr 404)], some lh45⟩
def lh46 : LH := ⟨4, 705, 725, [], [(705, .r 2000001 9 1 false)]⟩
def lf46 : LF := ⟨8888888, 0, [(0, .x 8)], [], .normal, [(0, .sr 705)], some lh46⟩
def lh47 : LH := ⟨4, 804, 816, [(705, .r 2000001 9 1 false)], []⟩
def lf47 : LF := ⟨7, 39, [(2, .x 0), (9, .sr 705), (10, I6 0)], [0, 1, 7, 8, 11, 12, 13], (.exit 2), [(2, .x 9)], some lh47⟩
noncomputable def aP2 : Tab := bI ((aV GX)) 35 lM [lf46]
def bH3 : List LF := [lf47]
theorem bqHr1_p1_7 : cS er 0 = pd := by kernel_rfl
theorem kqHr1_p1_7 : cU (br er) 7 0 0 = true := by kernel_rfl
theorem runHr1_p1 : bn (code aP2 4000 bH3 er (bc (bf j9 eB) 39) ⟨ay jn .leaf, 705, 0, 0⟩) .normal eB 39 844 [(0, .x 9), (1, .x 10), (2000000, .x 2000000)] [(704, 704)] 704 705 j9 jn = true := by kernel_rfl
def GW : LK := [(.rl (.x 2000000) 1, .x 12), (.bin .lss (.x 1) (.x 12), .b true), (.el (.x 2000000) (.x 1) 1 0, .x 13)]
def lh48 : LH := ⟨4, 404, 424, [], [(404, .r 2000002 9 1 false)]⟩
def lf48 : LF := ⟨8888888, 0, [(0, .x 13)], [], .normal, [(0, .sr 404)], some lh48⟩
def lh49 : LH := ⟨4, 705, 725, [], [(705, .r 2000002 9 1 false)]⟩
def lf49 : LF := ⟨8888888, 0, [(0, .x 13)], [], .normal, [(0, .sr 705)], some lh49⟩
def lh50 : LH := ⟨4, 804, 816, [(705, .r 2000002 9 1 false)], []⟩
def lf50 : LF := ⟨7, 39, [(2, .x 0), (9, .sr 705), (10, I6 0)], [0, 1, 7, 8, 11, 12, 13], .ret, [(6, .b true)], some lh50⟩
noncomputable def aP1 : Tab := bI ((aV GW)) 35 lM [lf49]
def bH2 : List LF := [lf50]
theorem bqHr1_p2_7 : cS er 0 = pd := by kernel_rfl
theorem kqHr1_p2_7 : cU (br er) 7 0 0 = true := by kernel_rfl
theorem runHr1_p2 : bn (code aP1 4000 bH2 er (bc (bf j9 eB) 39) ⟨ay jn .leaf, 705, 0, 0⟩) .ret eB 39 844 [] [] 704 844 [(6, .b true)] [] = true := by kernel_rfl
def GV : LK := [(.rl (.x 2000000) 1, .x 15), (.bin .lss (.x 1) (.x 15), .b false)]
theorem runHr1_p3 : bH0 GV (.exit 0) [] [] 844 [] [] = true := by kernel_rfl
section
variable {V : List LB} {wd : LB} {i : Int} {X : Nat → Value}
theorem aR6 (hI : jM V wd (0, i)) (h0 : i < (V.length : Int)) (h1 : (bD [] (List.getD V i.toNat [])).length = 0) : nP V wd E' x' e' h' (0, i) X := by
  obtain ⟨i0, i1, i2, i3, i4, it⟩ := vd V wd 0 i hI
  have hgd := dN i4.2 i.toNat
  have := oF (List.getD V i.toNat [])
  have ho : ∀ a' r', (a', r') ∈ GY → aL (iK V wd i X) a' r' := by
    unfold GY
    exact hc (eK (aA rfl) (aE rfl) (by first | omega | (simp <;> omega))) <|hc (ba rfl rfl (by omega)) <|hc (gP (j := i.toNat) (aA rfl) (aA rfl) (aE rfl) (by omega) (by first | omega | (simp <;> omega))) <|hc (bO rfl rfl (by omega)) <|hnil
  exact aX1 (tb := aP3) (L := bH4) (0, (i + 1)) (ar.lp2 ((ae _ _).hyps ho) (by omega) tU o4 (bH (.inr ⟨⟨rfl, rfl⟩, Ia, pb (l := lf43) (l' := lf44) (h := lh43) (h' := lh44) (q := (0, .aq)) (q' := (0, .aq)) (ids := []) (sg := [] ++ sgJ 4 701) (cfLsr_0 (l := lf43) (h := lh43) (q := (0, .aq)) (List.getD V i.toNat []) (by omega) (by assumption) rfl rfl (by kernel_rfl) (ao := [(0, .x 4)]) (aj := []) (aB (v := St' (List.getD V i.toNat [])) rfl rfl (aI)) (by kernel_rfl) (ak := []) (aI) (by kernel_rfl)) rfl rfl rfl rfl (by kernel_rfl) (by kernel_rfl)⟩) bE)) (mX bE) rfl (yF ⟨by omega, by omega, i2, AB i0 (by omega) i3 (any_0 (by assumption)), i4, by omega⟩) (by show V.length - (i + 1).toNat < V.length - i.toNat; omega) (aB (v := St' wd) rfl rfl (bT (b := ((i + 1))) rfl rfl (by omega) (aB (v := aO V) rfl rfl (aI)))) runHr1_p0
theorem aR5 (hI : jM V wd (0, i)) (h0 : i < (V.length : Int)) (h1 : ¬ ((bD [] (List.getD V i.toNat [])).length = 0)) (h2 : ¬ (cu (bD [] (List.getD V i.toNat [])) wd = true)) : nP V wd E' x' e' h' (0, i) X := by
  obtain ⟨i0, i1, i2, i3, i4, it⟩ := vd V wd 0 i hI
  have hgd := dN i4.2 i.toNat
  have := oF (List.getD V i.toNat [])
  have hlm : ∀ q, q ∈ bD [] (List.getD V i.toNat []) → q.length ≤ 1000 := fun q hq => by have := oE _ _ q hq; simp only [List.length_nil] at this; omega
  have ho : ∀ a' r', (a', r') ∈ GX → aL (iK V wd i X) a' r' := by
    unfold GX
    exact hc (eK (aA rfl) (aE rfl) (by first | omega | (simp <;> omega))) <|hc (ba rfl rfl (by omega)) <|hc (gP (j := i.toNat) (aA rfl) (aA rfl) (aE rfl) (by omega) (by first | omega | (simp <;> omega))) <|hc (bO rfl rfl (by omega)) <|hnil
  exact aX1 (tb := aP2) (L := bH3) (0, (i + 1)) (ar.lp2 ((ae _ _).hyps ho) (by omega) tU o4 (bH (.inr ⟨⟨rfl, rfl⟩, Ia, pb (l := lf45) (l' := lf46) (h := lh45) (h' := lh46) (q := (0, .sr 404)) (q' := (0, .sr 705)) (ids := [2000001]) (sg := [(705, 404)] ++ sgJ 4 701) (bG2 (l := lf45) (h := lh45) (q := (0, .sr 404)) (List.getD V i.toNat []) (by omega) (by assumption) rfl rfl (by kernel_rfl) (ao := [(0, .x 8)]) (aj := []) (aB (v := St' (List.getD V i.toNat [])) rfl rfl (aI)) (by kernel_rfl) (ak := [(2000001, .x 2000000)]) (aB (v := aO (bD [] (List.getD V i.toNat []))) rfl rfl (aI)) (by kernel_rfl)) rfl rfl rfl rfl (by kernel_rfl) (by kernel_rfl)⟩) bE)) (mX (bH (bR rfl ⟨0, kqHr1_p1_7, yZ bqHr1_p1_7 (ax.use (l := lf47) (h := lh47) (lfOkHr2_0 (bD [] (List.getD V i.toNat [])) wd (Bool.eq_false_iff.2 (by assumption))) (0, (0 : Int)) (Dh ⟨by omega, by omega, by omega, rfl, ⟨by omega, hlm⟩, by omega⟩) rfl (by kernel_rfl) (ao := [(0, .x 0), (1, I6 0), (2000000, .x 2000001)]) (aj := [(804, 705)]) (fun X => aB (v := St' wd) rfl rfl (bK (show Is _ (I6 0) (.int .i64 ((0 : Int))) from bL (v := .int .i64 0) (bP _ _) (by first | rfl | (congr 1; omega))) (aB (v := aO (bD [] (List.getD V i.toNat []))) rfl rfl (aI)))) (by kernel_rfl) (ak := [(9, .x 0)]) (aB (v := St' wd) rfl rfl (aI)) (by kernel_rfl))⟩) bE)) rfl (yF ⟨by omega, by omega, i2, AB i0 (by omega) i3 (Bool.eq_false_iff.2 (by assumption)), i4, by omega⟩) (by show V.length - (i + 1).toNat < V.length - i.toNat; omega) (aB (v := St' wd) rfl rfl (bT (b := ((i + 1))) rfl rfl (by omega) (aB (v := aO V) rfl rfl (aI)))) runHr1_p1
end
def aT1 (V : List LB) (wd : LB) : List Value := []
def roEHr1_0 (V : List LB) (wd : LB) : List Value := []
noncomputable def EHr1_0 (V : List LB) (wd : LB) : Cx := cx (af (aT1 V wd) (rX (roEHr1_0 V wd) (fun _ => .bool true))) (ah (aQ (l := aT1 V wd) rfl)) 1 aC aG
theorem roundsHr1_0 (V : List LB) (wd : LB) (x0 : bx V wd = false) (st : Nat × Int) (X : Nat → Value) (hI : jM V wd st) : nP V wd (EHr1_0 V wd) (.exit 0) [] [] st X := by
  obtain ⟨tag, i⟩ := st
  have hI0 := hI
  obtain ⟨i0, i1, i2, i3, i4, it⟩ := vd V wd tag i hI
  obtain rfl : tag = 0 := by omega
  skip
  have hgd := dN i4.2 i.toNat
  by_cases h0 : i < (V.length : Int)
  · by_cases h1 : (bD [] (List.getD V i.toNat [])).length = 0
    · exact aR6 hI0 h0 h1
    · by_cases h2 : cu (bD [] (List.getD V i.toNat [])) wd = true
      · exfalso; have hC := has_y (wd := wd) i0 (by omega) (by assumption); rw [x0] at hC; cases hC
      · exact aR5 hI0 h0 h1 h2
  · skip
    have hgd := dN i4.2 i.toNat
    refine lvHr1_0 (h := GV) rfl ?_ (aI) runHr1_p3
    unfold GV
    exact hc (eK (aA rfl) (aE rfl) (by first | omega | (simp <;> omega))) <|hc (dB rfl rfl (by omega)) <|hnil
theorem lfOkHr1_0 (V : List LB) (wd : LB) (x0 : bx V wd = false) : ax (cx nu one 1 aC aG) (EHr1_0 V wd) er eB 39 (.exit 0) 4 704 705 844 pX zt [] [] (jM V wd) (Bn V wd) :=
  cF (rZ V wd) (fun _ _ => rfl) (fun _ _ => rfl) (fun _ _ => rfl) (fun st X t ht => cE.trans (cD ((by decide : ∀ t, t ∈ eB → t < 1000000) t ht))) rfl rfl rfl ebHr1 rfl rfl (roundsHr1_0 V wd x0)
def aT0 (V : List LB) (wd : LB) : List Value := []
def roEHr1_1 (V : List LB) (wd : LB) : List Value := []
noncomputable def EHr1_1 (V : List LB) (wd : LB) : Cx := cx (af (aT0 V wd) (rX (roEHr1_1 V wd) (fun _ => .bool true))) (ah (aQ (l := aT0 V wd) rfl)) 1 aC aG
theorem roundsHr1_1 (V : List LB) (wd : LB) (x0 : bx V wd = true) (st : Nat × Int) (X : Nat → Value) (hI : jM V wd st) : nP V wd (EHr1_1 V wd) .ret [(6, .b true)] [] st X := by
  obtain ⟨tag, i⟩ := st
  have hI0 := hI
  obtain ⟨i0, i1, i2, i3, i4, it⟩ := vd V wd tag i hI
  obtain rfl : tag = 0 := by omega
  skip
  have hgd := dN i4.2 i.toNat
  by_cases h0 : i < (V.length : Int)
  · by_cases h1 : (bD [] (List.getD V i.toNat [])).length = 0
    · exact aR6 hI0 h0 h1
    · by_cases h2 : cu (bD [] (List.getD V i.toNat [])) wd = true
      · skip
        have hgd := dN i4.2 i.toNat
        have := oF (List.getD V i.toNat [])
        have hlm : ∀ q, q ∈ bD [] (List.getD V i.toNat []) → q.length ≤ 1000 := fun q hq => by have := oE _ _ q hq; simp only [List.length_nil] at this; omega
        have ho : ∀ a' r', (a', r') ∈ GW → aL (iK V wd i X) a' r' := by
          unfold GW
          exact hc (eK (aA rfl) (aE rfl) (by first | omega | (simp <;> omega))) <|hc (ba rfl rfl (by omega)) <|hc (gP (j := i.toNat) (aA rfl) (aA rfl) (aE rfl) (by omega) (by first | omega | (simp <;> omega))) <|hnil
        exact lLHr1_0 (tb := aP1) (L := bH2) rfl (ar.lp2 ((ae _ _).hyps ho) (by omega) tU o4 (bH (.inr ⟨⟨rfl, rfl⟩, Ia, pb (l := lf48) (l' := lf49) (h := lh48) (h' := lh49) (q := (0, .sr 404)) (q' := (0, .sr 705)) (ids := [2000002]) (sg := [(705, 404)] ++ sgJ 4 701) (bG2 (l := lf48) (h := lh48) (q := (0, .sr 404)) (List.getD V i.toNat []) (by omega) (by assumption) rfl rfl (by kernel_rfl) (ao := [(0, .x 13)]) (aj := []) (aB (v := St' (List.getD V i.toNat [])) rfl rfl (aI)) (by kernel_rfl) (ak := [(2000002, .x 2000000)]) (aB (v := aO (bD [] (List.getD V i.toNat []))) rfl rfl (aI)) (by kernel_rfl)) rfl rfl rfl rfl (by kernel_rfl) (by kernel_rfl)⟩) bE)) (mX (bH (bR rfl ⟨0, kqHr1_p2_7, yZ bqHr1_p2_7 (ax.use (l := lf50) (h := lh50) (lfOkHr2_1 (bD [] (List.getD V i.toNat [])) wd (by assumption)) (0, (0 : Int)) (Dh ⟨by omega, by omega, by omega, rfl, ⟨by omega, hlm⟩, by omega⟩) rfl (by kernel_rfl) (ao := [(0, .x 0), (1, I6 0), (2000000, .x 2000002)]) (aj := [(804, 705)]) (fun X => aB (v := St' wd) rfl rfl (bK (show Is _ (I6 0) (.int .i64 ((0 : Int))) from bL (v := .int .i64 0) (bP _ _) (by first | rfl | (congr 1; omega))) (aB (v := aO (bD [] (List.getD V i.toNat []))) rfl rfl (aI)))) (by kernel_rfl) (ak := []) (aI) (by kernel_rfl))⟩) bE)) rfl (aI) runHr1_p2
      · exact aR5 hI0 h0 h1 h2
  · exfalso; have hC := has_e (by omega) i3; rw [x0] at hC; cases hC
theorem lfOkHr1_1 (V : List LB) (wd : LB) (x0 : bx V wd = true) : ax (cx nu one 1 aC aG) (EHr1_1 V wd) er eB 39 .ret 4 704 705 844 pX zt [(6, .b true)] [] (jM V wd) (Bn V wd) :=
  cF (rZ V wd) (fun _ _ => rfl) (fun _ _ => rfl) (fun _ _ => rfl) (fun st X t ht => cE.trans (cD ((by decide : ∀ t, t ∈ eB → t < 1000000) t ht))) rfl rfl rfl ebHr1 rfl rfl (roundsHr1_1 V wd x0)
noncomputable def lQ : FI := (bB.fn.get 15).getD default
theorem pF : bB.fn.get 15 = some lQ := by kernel_rfl
theorem pD : lQ.body = some (Tryd.f15.body.getD .skip) := by kernel_rfl
def BN : List AV := [.sr 4, .x 0, .x 1]
def sm : LE := [(4, .r 2000000 23 2 true)]
def nuHasR (z : List (LB × LB)) (nm wd : LB) : List Value := [St' nm, St' wd, St' ([] : LB), St' ([] : LB), St' ([] : LB)]
def roHasR (z : List (LB × LB)) (nm wd : LB) : List Value := [aM aK z, aO ([] : List LB), aM aK z, aO (av nm z), aO ([] : List LB), aM aK z, aO (av nm z), aO ([] : List LB), aM aK z]
noncomputable def nU (z : List (LB × LB)) (nm wd : LB) : Cx := cx (af (nuHasR z nm wd) (rX (roHasR z nm wd) (fun _ => .bool true))) (ah (aQ (l := nuHasR z nm wd) rfl)) 1 aC aG
def Gb : LK := []
def lh42 : LH := ⟨4, 204, 244, [(4, .r 2000000 23 2 true)], [(4, .r 2000002 23 2 true), (204, .r 2000003 9 1 false)]⟩
def lf42 : LF := ⟨3, 31, [(1, .x 0), (5, .aq), (0, .sr 4), (6, I6 0)], [], (.exit 0), [(5, .sr 204)], some lh42⟩
def lh51 : LH := ⟨4, 704, 844, [(204, .r 2000003 9 1 false)], []⟩
def lf51 : LF := ⟨3, 39, [(2, .x 1), (7, .sr 204), (8, I6 0)], [], .ret, [(6, .b true)], some lh51⟩
noncomputable def aI8 : Tab := bI (bI ((aV Gb)) 15 lQ [lf42]) 17 lO [lf51]
theorem runHasR_c0 (e : Unit) : fA (call aI8 3000 17 BN ⟨ay sm ((fun _ : Unit => T.leaf) e), 184, 0, 0⟩) (.x 0) [(0, .b true), (2000000, .x 2000002)] [] 184 1004 [(4, .r 2000000 23 2 true)] = true := by kernel_rfl
def Ga : LK := []
def lh52 : LH := ⟨4, 204, 244, [(4, .r 2000000 23 2 true)], [(4, .r 2000005 23 2 true), (204, .r 2000006 9 1 false)]⟩
def lf52 : LF := ⟨3, 31, [(1, .x 0), (5, .aq), (0, .sr 4), (6, I6 0)], [], (.exit 0), [(5, .sr 204)], some lh52⟩
def lh53 : LH := ⟨4, 704, 844, [(204, .r 2000006 9 1 false)], []⟩
def lf53 : LF := ⟨3, 39, [(2, .x 1), (7, .sr 204), (8, I6 0)], [], (.exit 0), [], some lh53⟩
noncomputable def aI7 : Tab := bI (bI ((aV Ga)) 15 lQ [lf52]) 17 lO [lf53]
theorem runHasR_c1 (e : Unit) : fA (call aI7 3000 17 BN ⟨ay sm ((fun _ : Unit => T.leaf) e), 184, 0, 0⟩) (.x 0) [(0, .b false), (2000000, .x 2000005)] [] 184 1004 [(4, .r 2000000 23 2 true)] = true := by kernel_rfl
def GZ : LK := []
def lh54 : LH := ⟨4, 204, 244, [(4, .r 2000000 23 2 true)], [(4, .r 2000008 23 2 true)]⟩
def lf54 : LF := ⟨3, 31, [(1, .x 0), (5, .aq), (0, .sr 4), (6, I6 0)], [], (.exit 0), [(5, .aq)], some lh54⟩
noncomputable def aI6 : Tab := bI ((aV GZ)) 15 lQ [lf54]
theorem runHasR_c2 (e : Unit) : fA (call aI6 3000 17 BN ⟨ay sm ((fun _ : Unit => T.leaf) e), 184, 0, 0⟩) (.x 0) [(0, .b false), (2000000, .x 2000008)] [] 184 1004 [(4, .r 2000000 23 2 true)] = true := by kernel_rfl
def aK4 (z : List (LB × LB)) (nm wd : LB) : List Value := [.bool (bx (av nm z) wd)]
def roEHasR_0 (z : List (LB × LB)) (nm wd : LB) : List Value := [aM aK z]
noncomputable def Be (z : List (LB × LB)) (nm wd : LB) : Cx := cx (af (aK4 z nm wd) (rX (roEHasR_0 z nm wd) (fun _ => .bool true))) (ah (aQ (l := aK4 z nm wd) rfl)) 1 aC aG
theorem IY {l : LF} {h : LH} {q : Nat × AV} (z : List (LB × LB)) (nm wd : LB) (p0 : 1 ≤ z.length) (p1 : z.length ≤ 20) (p2 : ∀ q, q ∈ z → dH q) (p3 : ∀ q, q ∈ z → q.1.length ≤ 140737488351232) (p4 : ∀ q, q ∈ z → q.2.length ≤ 800) (p5 : nm.length ≤ 100) (p6 : wd.length ≤ 100) (hl : l.hp = some h) (hq : l.post = [q]) (hs : lX l h 4 184 1004 = true) {ao : LA} {aj : List (Nat × Nat)} (cq : aw (cx nu one 1 aC aG) (nU z nm wd) ao) (h0 : (iu ao (cb 184 184 aj) BN (l.pre.map (·.2)) && cf 184 184 ao aj (ay h.pre .leaf) sm && cd (numsOf 184 aj sm)) = true) {ak : LA} (cn : aw (Be z nm wd) (cx nu one 1 aC aG) ak) (hx : (inA ak (cb 184 1004 []) 8 q.2 (.x 0) && cf 184 1004 ak [] (ay [(4, .r 2000000 23 2 true)] .leaf) h.post && cd (numsOf 184 [] h.post)) = true) : ey (cx nu one 1 aC aG) 17 l := by
  by_cases d0 : av nm z = []
  · skip
    have := eL nm z
    have ho : ∀ a' r', (a', r') ∈ GZ → aL (nU z nm wd) a' r' := by
      unfold GZ
      exact hnil
    exact ga (D := nU z nm wd) (E := Be z nm wd) (Gf := (fun _ : Unit => T.leaf)) (f := 3000) (tb := aI6) rfl rfl rfl rfl rfl rfl hl hq hs rfl cq h0 cn hx (ar.bS ((ae _ _).hyps ho) (by omega) pF pD (bH (bR rfl ⟨0, oK, ax.use (l := lf54) (h := lh54) (aA8 z nm (by first | assumption | (exact List.length_pos_iff.2 (by assumption)))) (0, (0 : Int), ([] : List LB)) (iS ⟨by omega, by omega, by omega, by assumption, ⟨by omega, by assumption⟩, rfl, fun _ => rfl, fun h => by omega, by omega⟩) rfl (by kernel_rfl) (ao := [(0, .x 0), (1, I6 0), (2000000, .x 2000000)]) (aj := []) (fun X => aB (v := St' nm) rfl rfl (bK (show Is _ (I6 0) (.int .i64 ((0 : Int))) from bL (v := .int .i64 0) (bP _ _) (by first | rfl | (congr 1; omega))) (aB (v := aM aK z) rfl rfl (aI)))) (by kernel_rfl) (ak := [(2000008, .x 2000000)]) (aB (v := aM aK z) rfl rfl (aI)) (by kernel_rfl)⟩) bE)) rfl (aS (by omega) (by omega) o7) Hs (.inl ⟨fun _ => rfl, ⟨()⟩⟩) (bK (show Is _ (.b false) (.bool (bx (av nm z) wd)) from bL (v := .bool false) (oZ) (congrArg Value.bool (He (wd := wd) (V := av nm z) (by assumption)).symm)) (aB (v := aM aK z) rfl rfl (aI))) runHasR_c2
  · by_cases d1 : bx (av nm z) wd = true
    · skip
      have := eL nm z
      have ho : ∀ a' r', (a', r') ∈ Gb → aL (nU z nm wd) a' r' := by
        unfold Gb
        exact hnil
      exact ga (D := nU z nm wd) (E := Be z nm wd) (Gf := (fun _ : Unit => T.leaf)) (f := 3000) (tb := aI8) rfl rfl rfl rfl rfl rfl hl hq hs rfl cq h0 cn hx (ar.bS (ar.bS ((ae _ _).hyps ho) (by omega) pF pD (bH (bR rfl ⟨0, oK, ax.use (l := lf42) (h := lh42) (ya z nm (by first | assumption | (exact List.length_pos_iff.2 (by assumption)))) (0, (0 : Int), ([] : List LB)) (iS ⟨by omega, by omega, by omega, by assumption, ⟨by omega, by assumption⟩, rfl, fun _ => rfl, fun h => by omega, by omega⟩) rfl (by kernel_rfl) (ao := [(0, .x 0), (1, I6 0), (2000000, .x 2000000)]) (aj := []) (fun X => aB (v := St' nm) rfl rfl (bK (show Is _ (I6 0) (.int .i64 ((0 : Int))) from bL (v := .int .i64 0) (bP _ _) (by first | rfl | (congr 1; omega))) (aB (v := aM aK z) rfl rfl (aI)))) (by kernel_rfl) (ak := [(2000002, .x 2000000), (2000003, .x 2000001)]) (aB (v := aM aK z) rfl rfl (aB (v := aO (av nm z)) rfl rfl (aI))) (by kernel_rfl)⟩) bE)) (by omega) (aS (by omega) (by omega) o7) o6 (bH (bR rfl ⟨0, keyHr1, ax.use (l := lf51) (h := lh51) (lfOkHr1_1 (av nm z) wd (by assumption)) (0, (0 : Int)) (yF ⟨by omega, by omega, by omega, rfl, ⟨by omega, AH (by assumption)⟩, by omega⟩) rfl (by kernel_rfl) (ao := [(0, .x 1), (1, I6 0), (2000000, .x 2000003)]) (aj := [(704, 204)]) (fun X => aB (v := St' wd) rfl rfl (bK (show Is _ (I6 0) (.int .i64 ((0 : Int))) from bL (v := .int .i64 0) (bP _ _) (by first | rfl | (congr 1; omega))) (aB (v := aO (av nm z)) rfl rfl (aI)))) (by kernel_rfl) (ak := []) (aI) (by kernel_rfl)⟩) bE)) rfl (cP (by omega)) Hs (.inl ⟨fun _ => rfl, ⟨()⟩⟩) (bK (show Is _ (.b true) (.bool (bx (av nm z) wd)) from bL (v := .bool true) (oZ) (congrArg Value.bool ((by assumption : bx (av nm z) wd = true)).symm)) (aB (v := aM aK z) rfl rfl (aI))) runHasR_c0
    · skip
      have := eL nm z
      have ho : ∀ a' r', (a', r') ∈ Ga → aL (nU z nm wd) a' r' := by
        unfold Ga
        exact hnil
      exact ga (D := nU z nm wd) (E := Be z nm wd) (Gf := (fun _ : Unit => T.leaf)) (f := 3000) (tb := aI7) rfl rfl rfl rfl rfl rfl hl hq hs rfl cq h0 cn hx (ar.bS (ar.bS ((ae _ _).hyps ho) (by omega) pF pD (bH (bR rfl ⟨0, oK, ax.use (l := lf52) (h := lh52) (ya z nm (by first | assumption | (exact List.length_pos_iff.2 (by assumption)))) (0, (0 : Int), ([] : List LB)) (iS ⟨by omega, by omega, by omega, by assumption, ⟨by omega, by assumption⟩, rfl, fun _ => rfl, fun h => by omega, by omega⟩) rfl (by kernel_rfl) (ao := [(0, .x 0), (1, I6 0), (2000000, .x 2000000)]) (aj := []) (fun X => aB (v := St' nm) rfl rfl (bK (show Is _ (I6 0) (.int .i64 ((0 : Int))) from bL (v := .int .i64 0) (bP _ _) (by first | rfl | (congr 1; omega))) (aB (v := aM aK z) rfl rfl (aI)))) (by kernel_rfl) (ak := [(2000005, .x 2000000), (2000006, .x 2000001)]) (aB (v := aM aK z) rfl rfl (aB (v := aO (av nm z)) rfl rfl (aI))) (by kernel_rfl)⟩) bE)) (by omega) (aS (by omega) (by omega) o7) o6 (bH (bR rfl ⟨0, keyHr1, ax.use (l := lf53) (h := lh53) (lfOkHr1_0 (av nm z) wd (Bool.eq_false_iff.2 (by assumption))) (0, (0 : Int)) (yF ⟨by omega, by omega, by omega, rfl, ⟨by omega, AH (by assumption)⟩, by omega⟩) rfl (by kernel_rfl) (ao := [(0, .x 1), (1, I6 0), (2000000, .x 2000006)]) (aj := [(704, 204)]) (fun X => aB (v := St' wd) rfl rfl (bK (show Is _ (I6 0) (.int .i64 ((0 : Int))) from bL (v := .int .i64 0) (bP _ _) (by first | rfl | (congr 1; omega))) (aB (v := aO (av nm z)) rfl rfl (aI)))) (by kernel_rfl) (ak := []) (aI) (by kernel_rfl)⟩) bE)) rfl (cP (by omega)) Hs (.inl ⟨fun _ => rfl, ⟨()⟩⟩) (bK (show Is _ (.b false) (.bool (bx (av nm z) wd)) from bL (v := .bool false) (oZ) (congrArg Value.bool (Bool.eq_false_iff.2 (by assumption)).symm)) (aB (v := aM aK z) rfl rfl (aI))) runHasR_c1
end Go.Proofs.YtjkdkpdjmapieaaDoor.fieldTells

