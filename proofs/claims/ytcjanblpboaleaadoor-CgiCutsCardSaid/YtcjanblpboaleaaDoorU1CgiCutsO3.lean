/- A part of the proof: what an interpreter answers on partly known states is what the program answers. No condition. -/
import Derived.Test.YtcjanblpboaleaaDoorU1CgiCutsO2
set_option maxRecDepth 100000
set_option linter.unusedVariables false
set_option linter.unusedSimpArgs false
set_option maxHeartbeats 4000000
namespace Go.Proofs.YtcjanblpboaleaaDoor.cgiCuts
open Go Go.AX Go.Proofs Go.Proofs.YtcjanblpboaleaaDoor
variable {nu : Nat → Value} {one : ∀ i, i < 1000000 → (nu i).oneCell' = true} {E' : Cx} {x' : Ex} {e' : LA} {h' : LE}
def yR (c : Int) : Int := if 65 ≤ c ∧ c ≤ 90 then c + 32 else c
def lowU (b : UInt8) : UInt8 := u8 (yR (b.toNat : Int))
def az (l : LB) : LB := l.map lowU
theorem aL6 {l : LB} {i : Nat} (hi : i < l.length) : l.drop i = u8 (bt l i) :: l.drop (i + 1) := by
 rw [List.drop_eq_getElem_cons hi, qz, List.getD_eq_getElem?_getD, List.getElem?_eq_getElem hi, Option.getD_some]
theorem low_take {l : LB} {i : Nat} (hi : i < l.length) : l.take (i + 1) = l.take i ++ [u8 (bt l i)] := by
 rw [List.take_succ_eq_append_getElem hi, qz, List.getD_eq_getElem?_getD, List.getElem?_eq_getElem hi, Option.getD_some]
theorem aW5 {c : Int} (h0 : 0 ≤ c) (h1 : c ≤ 255) : lowU (u8 c) = u8 (yR c) := by unfold lowU; rw [nU h0 h1]
theorem aL5 {l : LB} {i : Nat} (hi : i < l.length) (h : ¬ (65 ≤ bt l i ∧ bt l i ≤ 90)) : l.take (i + 1) ++ az (l.drop (i + 1)) = l.take i ++ az (l.drop i) := by
 rw [low_take hi, aL6 hi, az, az, List.map_cons, aW5 (bQ _ _) (bR _ _), yR, if_neg h]; simp
theorem low_set {l : LB} {i : Nat} (hi : i < l.length) (h : 65 ≤ bt l i ∧ bt l i ≤ 90) : (l.set i (u8 (bt l i + 32))).take (i + 1) ++ az ((l.set i (u8 (bt l i + 32))).drop (i + 1)) = l.take i ++ az (l.drop i) := by
 have h1 : (l.set i (u8 (bt l i + 32))).take (i + 1) = l.take i ++ [u8 (bt l i + 32)] := by
  rw [List.take_succ_eq_append_getElem (by simpa using hi), List.take_set_of_le (Nat.le_refl _)]; simp
 have h2 : (l.set i (u8 (bt l i + 32))).drop (i + 1) = l.drop (i + 1) := by rw [List.drop_set_of_lt (by omega)]
 rw [h1, h2, aL6 hi, az, az, List.map_cons, aW5 (bQ _ _) (bR _ _), yR, if_pos h]; simp
theorem low_end {l : LB} {i : Nat} (hi : l.length ≤ i) : l.take i ++ az (l.drop i) = l := by
 rw [List.take_of_length_le hi, List.drop_eq_nil_of_le hi]; simp [az]
noncomputable def GR : Code := gi (Tryd.f66.body.getD .skip) 0
theorem keyLw : gC (di (Tryd.f66.body.getD .skip)) 3 0 0 = true := by kernel_rfl
def pq : List Nat := [0, 2, 6]
def uC : LA := [(3, .sy 4), (7, .sy 4), (8, .sy 4), (9, .x 1), (10, .x 2)]
def tN : LE := [(4, .t 0 5)]
def xX (T l : LB) (i : Int) : List Value := [St' l, .int .i64 ((l.length : Int)), .int .i64 (i), .int .u8 (bt l i.toNat), .int .i64 (i + 1), .int .u8 (bt l i.toNat), .int .u8 ((bt l i.toNat) + 97), .int .u8 ((bt l i.toNat) + 32), St' (List.set l i.toNat (u8 ((bt l i.toNat) + 32))), .int .i64 (i + 1), .int .u8 (bt l i.toNat), .int .i64 (i + 1)]
def roLw_0 (T l : LB) (i : Int) : List Value := []
def uD (st : Nat × LB × Int) : LA := uC
def hpLw (st : Nat × LB × Int) : LE := tN
def nuLw (T : LB) (st : Nat × LB × Int) : List Value := xX T (st.2.1) (st.2.2)
def roLw (T : LB) (st : Nat × LB × Int) : List Value := roLw_0 T (st.2.1) (st.2.2)
theorem onLw (T : LB) (st : Nat × LB × Int) : ∀ j, (bA (nuLw T st) j).oneCell' = true := by
 intro j
 unfold nuLw
 exact aV (l := xX T (st.2.1) (st.2.2)) rfl j
theorem ebLw (st : Nat × LB × Int) : (dX (uD st) && ef pq) = true := by
 unfold uD
 rfl
noncomputable def DLw (T : LB) (st : Nat × LB × Int) (X : Nat → Value) : Cx := cx (bG (nuLw T st) (rX (roLw T st) X)) (bJ (onLw T st)) 1 aH aQ
abbrev CjLw (T : LB) (tag : Nat) (l : LB) (i : Int) : Prop := (0 ≤ i) ∧ (i ≤ (l.length : Int)) ∧ (l.take i.toNat ++ az (l.drop i.toNat) = T) ∧ (l.length ≤ 140737488355328) ∧ (tag < 1)
def mA (T : LB) (st : Nat × LB × Int) : Prop := CjLw T st.1 (st.2.1) (st.2.2)
theorem yO {T : LB} {tag : Nat} {l : LB} {i : Int} (h : CjLw T tag l i) : mA T (tag, l, i) := h
theorem vF (T : LB) (tag : Nat) (l : LB) (i : Int) (h : mA T (tag, l, i)) : CjLw T tag l i := h
def yM (T : LB) (st : Nat × LB × Int) : Nat := ((st.2.1).length - (st.2.2).toNat)
abbrev ql (T : LB) (E' : Cx) (ex' : Ex) (epx' : LA) (hpx' : LE) (st : Nat × LB × Int) (X : Nat → Value) : Prop := bj E' GR pq 30 ex' 4 5 5 5 uD hpLw epx' hpx' (mA T) (yM T) (DLw T) st X
noncomputable abbrev BT (T l : LB) (i : Int) (X : Nat → Value) : Cx := cx (bG (xX T l i) (rX (roLw_0 T l i) X)) (bJ (aV (l := xX T l i) rfl)) 1 aH aQ
noncomputable abbrev qg (h : LK) (x : Ex) (th : LA) (sg : List (Nat × Nat)) (m : Nat) (ep : LA) (hp : LE) : Bool := bP (code (aT h) 400 [] GR (bD (bH uC pq) 30) ⟨ae tN .leaf, 5, 0, 0⟩) x pq 30 5 th sg 5 m ep hp
theorem Bu {T l : LB} {i : Int} {X : Nat → Value} {h : LK} (y : Nat × LB × Int) {th : LA} {sg : List (Nat × Nat)} (ho : ∀ a' r', (a', r') ∈ h → aM (BT T l i X) a' r') (hy : mA T y) (lt : yM T y < yM T (0, l, i)) (ht : bE (BT T l i X) (DLw T y X) th) (run : qg h .normal th sg 5 (uD y) (hpLw y) = true) : ql T E' x' e' h' (0, l, i) X :=
 bj.next (tb := aT h) (L := []) (f := 400) y ((ab _ _).hyps ho) (bV.nil _) rfl hy lt ht run
theorem lvLw_0 {T l : LB} {i : Int} {X : Nat → Value} {h : LK} {th : LA} {sg : List (Nat × Nat)} (hne : cn x' .normal = false) (ho : ∀ a' r', (a', r') ∈ h → aM (BT T l i X) a' r') (ht : bE (BT T l i X) E' th) (run : qg h x' th sg 5 e' h' = true) : ql T E' x' e' h' (0, l, i) X :=
 bj.leave (tb := aT h) (L := []) (f := 400) ((ab _ _).hyps ho) (bV.nil _) rfl hne ht run
def Ed : LK := [(.bin .lss (.x 2) (.x 1), .b false)]
theorem runLw_p0 : qg Ed (.exit 0) [(0, .x 0)] [] 5 [(3, .sy 4)] [(4, .t 0 5)] = true := by kernel_rfl
def Ec : LK := [(.bin .lss (.x 2) (.x 1), .b true), (.gy (.x 0) (.x 2), .x 3), (.bin .geq (.x 3) (.i .u8 (.ofNat 65)), .b true), (.bin .leq (.x 3) (.i .u8 (.ofNat 90)), .b false), (.bin .add (.x 2) (I6 1), .x 4)]
theorem runLw_p1 : qg Ec .normal [(0, .x 0), (1, .x 1), (2, .x 4)] [] 5 uC tN = true := by kernel_rfl
def Eb : LK := [(.bin .lss (.x 2) (.x 1), .b true), (.gy (.x 0) (.x 2), .x 5), (.bin .geq (.x 5) (.i .u8 (.ofNat 65)), .b true), (.bin .leq (.x 5) (.i .u8 (.ofNat 90)), .b true), (.bin .add (.x 5) (.i .u8 (.ofNat 97)), .x 6), (.bin .sub (.x 6) (.i .u8 (.ofNat 65)), .x 7), (.set (.x 0) (.x 2) (.x 7), .x 8), (.bin .add (.x 2) (I6 1), .x 9)]
theorem runLw_p2 : qg Eb .normal [(0, .x 8), (1, .x 1), (2, .x 9)] [] 5 uC tN = true := by kernel_rfl
def Ea : LK := [(.bin .lss (.x 2) (.x 1), .b true), (.gy (.x 0) (.x 2), .x 10), (.bin .geq (.x 10) (.i .u8 (.ofNat 65)), .b false), (.bin .add (.x 2) (I6 1), .x 11)]
theorem runLw_p3 : qg Ea .normal [(0, .x 0), (1, .x 1), (2, .x 11)] [] 5 uC tN = true := by kernel_rfl
section
variable {T : LB} {l : LB} {i : Int} {X : Nat → Value}
theorem nxLw_p1 (hI : mA T (0, l, i)) (h0 : i < (l.length : Int)) (h1 : 65 ≤ bt l i.toNat) (h2 : ¬ (bt l i.toNat ≤ 90)) : ql T E' x' e' h' (0, l, i) X := by
 obtain ⟨i0, i1, i2, i3, it⟩ := vF T 0 l i hI
 have := bQ l i.toNat; have := bR l i.toNat
 refine Bu (h := Ec) (0, l, (i + 1)) ?_ (yO ⟨by omega, by omega, by rw [← i2, show (i + 1).toNat = i.toNat + 1 by omega]; exact aL5 (by omega) (by omega), by omega, by omega⟩) (by show l.length - (i + 1).toNat < l.length - i.toNat; omega) (aB (v := St' l) (aB (v := .int .i64 ((l.length : Int))) (bc (b := ((i + 1))) rfl rfl (by omega) (aI)))) runLw_p1
 unfold Ec
 exact hc bU <|hc (y4 (i := i.toNat) (aA rfl) (aA rfl) (aG rfl) (by omega) (by first | omega | (simp <;> omega)) rfl) <|hc gL <|hc lecF <|hc au <|hnil
theorem nxLw_p2 (hI : mA T (0, l, i)) (h0 : i < (l.length : Int)) (h1 : 65 ≤ bt l i.toNat) (h2 : bt l i.toNat ≤ 90) : ql T E' x' e' h' (0, l, i) X := by
 obtain ⟨i0, i1, i2, i3, it⟩ := vF T 0 l i hI
 have := bQ l i.toNat; have := bR l i.toNat
 have : (List.set l i.toNat (u8 ((bt l i.toNat) + 32))).length = l.length := List.length_set ..
 refine Bu (h := Eb) (0, (List.set l i.toNat (u8 ((bt l i.toNat) + 32))), (i + 1)) ?_ (yO ⟨by omega, by rw [List.length_set]; omega, by rw [← i2, show (i + 1).toNat = i.toNat + 1 by omega]; exact low_set (by omega) (by omega), by rw [List.length_set]; omega, by omega⟩) (by show (List.set l i.toNat _).length - (i + 1).toNat < l.length - i.toNat; rw [List.length_set]; omega) (aB (v := St' (List.set l i.toNat (u8 ((bt l i.toNat) + 32)))) (ah (v := .int .i64 ((l.length : Int))) (u := .int .i64 (((List.set l i.toNat (u8 ((bt l i.toNat) + 32))).length : Int))) rfl rfl (congrArg (Value.int .i64) (by rw [List.length_set])) (bc (b := ((i + 1))) rfl rfl (by omega) (aI)))) runLw_p2
 unfold Eb
 exact hc bU <|hc (y4 (i := i.toNat) (aA rfl) (aA rfl) (aG rfl) (by omega) (by first | omega | (simp <;> omega)) rfl) <|hc gL <|hc lecT <|hc (kAdd (aA rfl) (b7 (m := 97) rfl) (aG rfl) (by omega) (fU8 (by omega) (by omega))) <|hc (kSub (aA rfl) (b7 (m := 65) rfl) (aG rfl) (by omega) (fU8 (by omega) (by omega))) <|hc (kSet (i := i.toNat) (aA rfl) (aA rfl) (aA rfl) (aG rfl) (by omega) (by first | omega | (simp <;> omega)) (by omega) (by omega) rfl) <|hc au <|hnil
theorem nxLw_p3 (hI : mA T (0, l, i)) (h0 : i < (l.length : Int)) (h1 : ¬ (65 ≤ bt l i.toNat)) : ql T E' x' e' h' (0, l, i) X := by
 obtain ⟨i0, i1, i2, i3, it⟩ := vF T 0 l i hI
 have := bQ l i.toNat; have := bR l i.toNat
 refine Bu (h := Ea) (0, l, (i + 1)) ?_ (yO ⟨by omega, by omega, by rw [← i2, show (i + 1).toNat = i.toNat + 1 by omega]; exact aL5 (by omega) (by omega), by omega, by omega⟩) (by show l.length - (i + 1).toNat < l.length - i.toNat; omega) (aB (v := St' l) (aB (v := .int .i64 ((l.length : Int))) (bc (b := ((i + 1))) rfl rfl (by omega) (aI)))) runLw_p3
 unfold Ea
 exact hc bU <|hc (y4 (i := i.toNat) (aA rfl) (aA rfl) (aG rfl) (by omega) (by first | omega | (simp <;> omega)) rfl) <|hc mz <|hc au <|hnil
end
def aU7 (T : LB) : List Value := [St' T]
def roELw_0 (T : LB) : List Value := []
noncomputable def ELw_0 (T : LB) : Cx := cx (bG (aU7 T) (rX (roELw_0 T) (fun _ => .bool true))) (bJ (aV (l := aU7 T) rfl)) 1 aH aQ
theorem roundsLw_0 (T : LB) (st : Nat × LB × Int) (X : Nat → Value) (hI : mA T st) : ql T (ELw_0 T) (.exit 0) [(3, .sy 4)] [(4, .t 0 5)] st X := by
 obtain ⟨tag, l, i⟩ := st
 have hI0 := hI
 obtain ⟨i0, i1, i2, i3, it⟩ := vF T tag l i hI
 obtain rfl : tag = 0 := by omega
 skip
 by_cases h0 : i < (l.length : Int)
 ·by_cases h1 : 65 ≤ bt l i.toNat
  ·by_cases h2 : bt l i.toNat ≤ 90
   ·exact nxLw_p2 hI0 h0 h1 h2
   ·exact nxLw_p1 hI0 h0 h1 h2
  ·exact nxLw_p3 hI0 h0 h1
 ·refine lvLw_0 (h := Ed) rfl ?_ (ah (v := St' l) (u := St' T) rfl rfl (congrArg (fun l => St' l) (by rw [← i2]; exact (low_end (by omega)).symm)) (aI)) runLw_p0
  unfold Ed
  exact hc dV <|hnil
theorem lfOkLw_0 (T : LB) : bI (cx nu one 1 aH aQ) (ELw_0 T) GR pq 30 (.exit 0) 4 5 5 5 uD hpLw [(3, .sy 4)] [(4, .t 0 5)] (mA T) (DLw T) :=
 dW (yM T) (fun _ _ => rfl) (fun _ _ => rfl) (fun _ _ => rfl) (fun st X t ht => dT.trans (dS ((by decide : ∀ t, t ∈ pq → t < 1000000) t ht))) rfl rfl rfl ebLw rfl rfl (roundsLw_0 T)
noncomputable def AF : FI := (cD.fn.get 66).getD default
theorem fi66_at : cD.fn.get 66 = some AF := by kernel_rfl
theorem aG0 : AF.body = some (Tryd.f66.body.getD .skip) := by kernel_rfl
theorem fiB66 : AF.body.isSome = true := by rw [aG0]; rfl
def Ee : LK := [(.fit (.x 0), .b true), (.len (.x 0), .x 1)]
def lh7 : LH := ⟨4, 5, 5, [(4, .t 0 5)], [(4, .t 2 5)]⟩
def lf7 : LF := ⟨3, 30, [(3, .sy 4), (7, .sy 4), (8, .sy 4), (9, .x 1), (10, I6 0)], [0, 2, 6], (.exit 0), [(3, .sy 4)], some lh7⟩
noncomputable def aC1 : Tab := bL ({ cD with hyp := Ee }) 66 AF [lf7]
theorem runLower_0 (e : Nat) : okA (call aC1 9000 66 [.x 0] ⟨H0 e , 4, 0, 0⟩) (.x 2) = true := by kernel_rfl
def xY (s : LB) : List Value := [St' s, .int .i64 ((s.length : Int)), St' (az s)]
theorem pathLower_0 (s : LB) (b0 : s.length ≤ 9223372036854775807) (p0 : s.length ≤ 140737488355328) (w : World) (hl : aH w) : bp 66 #[St' s] w (St' (az s)) := by
 have : (az s).length = s.length := List.length_map ..
 have ho : ∀ k r, (k, r) ∈ Ee → aM (cx (bA (xY s)) (fun j _ => aV (l := xY s) rfl j) 1 aH aQ) k r := by
  unfold Ee
  exact hc (yz (aA rfl) (by first | omega | (simp <;> omega))) <|hc av <|hnil
 refine cR (tb := aC1) (ra := .x 2) rfl (aq.bz ((ab (bA (xY s)) (fun j _ => aV (l := xY s) rfl j)).hyps ho) (by omega) fi66_at aG0 (bK (bx rfl ⟨0, keyLw, bI.use (l := lf7) (h := lh7) (lfOkLw_0 (az s)) (0, s, (0 : Int)) (yO ⟨by omega, by omega, by simp, by omega, by omega⟩) rfl (by kernel_rfl) (ao := [(0, .x 0), (1, .x 1), (2, I6 0)]) (ai := []) (fun X => aB (v := St' s) (aB (v := .int .i64 ((s.length : Int))) (ad bS (aI)))) (by kernel_rfl) (ak := [(2, .x 0)]) (aB (v := St' (az s)) (aI)) (by kernel_rfl)⟩) aj)) rfl (ez (by omega)) fiB66 (fun e => runLower_0 e ) (args := [St' s]) (by simp only [aJ, Rel]; exact ⟨_, _, rfl, rfl, rfl⟩) w hl fun x hx => ?_
 simp only [Rel, aJ] at hx
 exact hx
theorem callsLower (s : LB) (b0 : s.length ≤ 9223372036854775807) (p0 : s.length ≤ 140737488355328) (w : World) (hl : aH w) : bp 66 #[St' s] w (St' (az s)) := by
 rw [show (St' (az s) : Value) = (St' (az s) : Value) from by rfl]
 exact pathLower_0 s b0 p0 w hl
theorem fo {x0 r : AV} {s : LB} (i0 : Is (cx nu one 1 aH aQ) x0 (St' s)) (hr : Den (cx nu one 1 aH aQ) r (St' (az s))) (b0 : s.length ≤ 9223372036854775807 := by omega) (p0 : s.length ≤ 140737488355328 := by omega) : aM (cx nu one 1 aH aQ) (.call 66 [x0]) r := by
 intro ρ args ha w hl _
 simp only [aJ] at ha
 obtain ⟨v0, t0, rfl, a0, rfl⟩ := ha
 have e0 := i0 ρ _ a0; subst e0
 exact (callsLower s b0 p0 w hl).mono fun e w' he => ⟨_, he.1, hr ρ, he.2⟩
end Go.Proofs.YtcjanblpboaleaaDoor.cgiCuts

