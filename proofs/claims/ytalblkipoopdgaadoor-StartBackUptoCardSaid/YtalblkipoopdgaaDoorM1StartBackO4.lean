/- A part of the proof: an interpreter of the model's own code on partly known states, and that what it answers is what the program answers. No condition of its own. -/
import Derived.Test.YtalblkipoopdgaaDoorM1StartBackO3
set_option maxRecDepth 100000
set_option linter.unusedVariables false
set_option linter.unusedSimpArgs false
set_option maxHeartbeats 4000000
namespace Go.Proofs.YtalblkipoopdgaaDoor.startBack
open Go Go.AX Go.Proofs Go.Proofs.YtalblkipoopdgaaDoor
variable {nu : Nat → Value} {one : ∀ i, i < 1000000 → (nu i).oneCell' = true} {E' : Cx} {x' : Ex} {e' : LA} {h' : LE}
noncomputable def bodyGs : Code := loopNo (Tryd.f28.body.getD .skip) 0
theorem keyGs : oneKey (loopsOf (Tryd.f28.body.getD .skip)) 11 0 0 = true := by kernel_rfl
def keepGs : List Nat := []
def epGs_0 : LA := [(0, .x 0), (1, .s 1 32), (2, .i .i64 (.ofNat 0)), (3, .x 2), (9, .sr 40), (10, .x 1)]
def hpGs_0 : LE := [(40, .r 2000000 9 1 false)]
def nuGs_0 (ln r : LB) (i : Int) : List Value := [St' r, .int .i64 (i), .int .i64 ((((spl ln).length : Int) - 1)), .int .i64 (idxB r 32), .int .i64 ((idxB r 32)), St' (List.take (Int.toNat ((idxB r 32))) r), St' (nthS (rwE (spl ln) i) (Int.toNat (i))), .int .i64 ((idxB r 32) + 1), St' (List.drop (Int.toNat ((idxB r 32) + 1)) r), .int .i64 (i + 1), St' (List.take (Int.toNat (0)) r), St' (nthS (rwE (spl ln) i) (Int.toNat (i))), St' (List.drop (Int.toNat (1)) r), .int .i64 (i + 1)]
def roGs_0 (ln r : LB) (i : Int) : List Value := [rwS (rwE (spl ln) i), rwS (List.set (rwE (spl ln) i) (Int.toNat (i)) (List.take (Int.toNat ((idxB r 32))) r)), rwS (List.set (rwE (spl ln) i) (Int.toNat (i)) (List.take (Int.toNat (0)) r))]
def epGs (st : Nat × LB × Int) : LA := epGs_0
def hpGs (st : Nat × LB × Int) : LE := hpGs_0
def nuGs (ln : LB) (st : Nat × LB × Int) : List Value := nuGs_0 ln (st.2.1) (st.2.2)
def roGs (ln : LB) (st : Nat × LB × Int) : List Value := roGs_0 ln (st.2.1) (st.2.2)
theorem onGs (ln : LB) (st : Nat × LB × Int) : ∀ j, (nuL (nuGs ln st) j).oneCell' = true := by
  intro j
  unfold nuGs
  exact nuL_one (l := nuGs_0 ln (st.2.1) (st.2.2)) rfl j
theorem ebGs (st : Nat × LB × Int) : (lfB (epGs st) && lfC keepGs) = true := by
  unfold epGs
  rfl
noncomputable def DGs (ln : LB) (st : Nat × LB × Int) (X : Nat → Value) : Cx := cx (nuX (nuGs ln st) (rX (roGs ln st) X)) (nuX_one (onGs ln st)) 1 laidE laidE_stab
def InvGs (ln : LB) (st : Nat × LB × Int) : Prop := (0 ≤ (st.2.2)) ∧ ((st.2.2) + ((spl (st.2.1)).length : Int) = ((spl ln).length : Int)) ∧ ((spl ln).drop (Int.toNat (st.2.2)) = spl (st.2.1)) ∧ ((st.2.1).length ≤ ln.length) ∧ ((st.1) < 1)
abbrev CjGs (ln : LB) (tag : Nat) (r : LB) (i : Int) : Prop := (0 ≤ i) ∧ (i + ((spl r).length : Int) = ((spl ln).length : Int)) ∧ ((spl ln).drop (Int.toNat i) = spl r) ∧ (r.length ≤ ln.length) ∧ (tag < 1)
theorem mkIGs (ln : LB) (tag : Nat) (r : LB) (i : Int) (h : CjGs ln tag r i) : InvGs ln (tag, r, i) := h
theorem unIGs (ln : LB) (tag : Nat) (r : LB) (i : Int) (h : InvGs ln (tag, r, i)) : (0 ≤ i) ∧ (i + ((spl r).length : Int) = ((spl ln).length : Int)) ∧ ((spl ln).drop (Int.toNat i) = spl r) ∧ (r.length ≤ ln.length) ∧ (tag < 1) := h
def muGs (ln : LB) (st : Nat × LB × Int) : Nat := ((spl ln).length - (st.2.2).toNat)
abbrev RHGs (ln : LB) (E' : Cx) (ex' : Ex) (epx' : LA) (hpx' : LE) (st : Nat × LB × Int) (X : Nat → Value) : Prop := RoundH E' bodyGs keepGs 66 ex' 7 40 41 48 epGs hpGs epx' hpx' (InvGs ln) (muGs ln) (DGs ln) st X
noncomputable abbrev RNGs_0 (h : LK) (x : Ex) (th : LA) (sg : List (Nat × Nat)) (m : Nat) (ep : LA) (hp : LE) : Bool := okRdH (code (tbl h) 900 [] bodyGs (envOf (headOf epGs_0 keepGs) 66) ⟨lhSet hpGs_0 .leaf, 41, 0, 0⟩) x keepGs 66 48 th sg 40 m ep hp
theorem stGs_0 (ln r : LB) (i : Int) {X : Nat → Value} {h : LK} (y : Nat × LB × Int) {th : LA} {sg : List (Nat × Nat)} (ho : ∀ a' r', (a', r') ∈ h → HOk (cx (nuX (nuGs_0 ln r i) (rX (roGs_0 ln r i) X)) (nuX_one (nuL_one (l := nuGs_0 ln r i) rfl)) 1 laidE laidE_stab) a' r') (hy : InvGs ln y) (lt : muGs ln y < muGs ln (0, r, i)) (ht : ThOk (cx (nuX (nuGs_0 ln r i) (rX (roGs_0 ln r i) X)) (nuX_one (nuL_one (l := nuGs_0 ln r i) rfl)) 1 laidE laidE_stab) (DGs ln y X) th) (run : RNGs_0 h .normal th sg 41 (epGs y) (hpGs y) = true) : RHGs ln E' x' e' h' (0, r, i) X :=
  RoundH.next (tb := tbl h) (L := []) (f := 900) y ((tabkOk _ _).hyps ho) (LpOk.nil _) rfl hy lt ht run
theorem lvGs_0 (ln r : LB) (i : Int) {X : Nat → Value} {h : LK} {th : LA} {sg : List (Nat × Nat)} (hne : exB x' .normal = false) (ho : ∀ a' r', (a', r') ∈ h → HOk (cx (nuX (nuGs_0 ln r i) (rX (roGs_0 ln r i) X)) (nuX_one (nuL_one (l := nuGs_0 ln r i) rfl)) 1 laidE laidE_stab) a' r') (ht : ThOk (cx (nuX (nuGs_0 ln r i) (rX (roGs_0 ln r i) X)) (nuX_one (nuL_one (l := nuGs_0 ln r i) rfl)) 1 laidE laidE_stab) E' th) (run : RNGs_0 h x' th sg 48 e' h' = true) : RHGs ln E' x' e' h' (0, r, i) X :=
  RoundH.leave (tb := tbl h) (L := []) (f := 900) ((tabkOk _ _).hyps ho) (LpOk.nil _) rfl hne ht run
def hyGs_p0 : LK := [(.bin .lss (.x 1) (.x 2), .b true), (.bin .eql (.s 1 32) (.x 0), .b false), (.ext 62 [.x 0, .i .u8 (.ofNat 32)], .x 3), (.bin .lss (.x 3) (.i .i64 (.ofNat 0)), .b false), (.bin .add (.x 3) (.i .i64 (.ofNat 0)), .x 4), (.sub (.x 0) none (some (.x 4)), .x 5), (.el (.x 2000000) (.x 1) 1 0, .x 6), (.rs (.x 2000000) (.x 1) (.x 5), .x 2000001), (.bin .add (.x 3) (.i .i64 (.ofNat 1)), .x 7), (.sub (.x 0) (some (.x 7)) none, .x 8), (.bin .add (.x 1) (.i .i64 (.ofNat 1)), .x 9)]
theorem runGs_p0 : RNGs_0 hyGs_p0 .normal [(0, .x 8), (1, .x 9), (2, .x 2), (2000000, .x 2000001)] [(40, 40)] 41 epGs_0 hpGs_0 = true := by kernel_rfl
theorem nxGs_p0 (ln : LB) (c0 : ln.length ≤ 8000000000000) (r : LB) (i : Int) (X : Nat → Value) (hI : InvGs ln (0, r, i)) (h0 : i < (((spl ln).length : Int) - 1)) (h1 : ¬ ([u8 32] = r)) : RHGs ln E' x' e' h' (0, r, i) X := by
  obtain ⟨i0, i1, i2, i3, it⟩ := unIGs ln 0 r i hI
  have hf := spl_f r
  have hcs := spl_cnt ln
  have := lenTake (l := r) (Q := (idxB r 32)) (by omega) (by omega)
  have := lenDrop (l := r) (P := (idxB r 32) + 1) (by omega) (by omega)
  have hgs := gs_step i0 i2 (by first | omega | (have := sp_eq (by assumption); omega))
  refine stGs_0 ln r i (h := hyGs_p0) (0, (List.drop (Int.toNat (idxB r 32 + 1)) r), (i + 1)) ?_ (mkIGs ln 0 (List.drop (Int.toNat (idxB r 32 + 1)) r) (i + 1) ⟨by omega, by omega, hgs.1, by rw [List.length_drop]; omega, by omega⟩) (by show (spl ln).length - (i + 1).toNat < (spl ln).length - i.toNat; omega) (thXe (v := St' (List.drop (Int.toNat ((idxB r 32) + 1)) r)) (u := St' (List.drop (Int.toNat (idxB r 32 + 1)) r)) rfl rfl (congrArg (fun l => St' l) (by first | rfl | (rw [sp_eq (by assumption)]; rfl))) (thXi (b := ((i + 1))) rfl rfl (by omega) (thXv (v := .int .i64 ((((spl ln).length : Int) - 1))) rfl rfl (thXe (v := rwS (List.set (rwE (spl ln) i) (Int.toNat (i)) (List.take (Int.toNat ((idxB r 32))) r))) (u := rwS (rwE (spl ln) (i + 1))) rfl rfl (congrArg rwS (hgs.2)) (thNil))))) runGs_p0
  unfold hyGs_p0
  exact hc (ltT rfl rfl (by omega)) <|
   hc (kEqS (isSx (l := [u8 32]) 1 32 rfl) (isX rfl) (by first | exact decide_eq_true rfl | exact decide_eq_true ‹_› | exact decide_eq_false ‹_›)) <|
   hc (kExtI (n := idxB r 32) exF62 exA62 exB62 (isX rfl) (isZ (m := 32) rfl) (denX rfl) rfl) <|
   hc (ltcF rfl (by omega)) <|
   hc (adC rfl rfl (by omega)) <|
   hc (tkV rfl rfl rfl (by omega)) <|
   hc (kElN (j := (Int.toNat (i))) (isX rfl) (isX rfl) (denX rfl) (by omega) (by rw [rwE_len (by omega)]; omega)) <|
   hc (kRs (j := (Int.toNat (i))) (s := (List.take (Int.toNat ((idxB r 32))) r)) (isX rfl) (isX rfl) (isX rfl) (denX rfl) (by omega) (by rw [rwE_len (by omega)]; omega)) <|
   hc (adC rfl rfl (by omega)) <|
   hc (drV rfl rfl rfl (by omega)) <|
   hc (adC rfl rfl (by omega)) <|
   hnil
def hyGs_p1 : LK := [(.bin .lss (.x 1) (.x 2), .b false)]
theorem runGs_p1 : RNGs_0 hyGs_p1 (.exit 0) [(0, .x 0), (1, .x 1), (2000000, .x 2000000)] [(40, 40)] 48 [(0, .x 0), (9, .sr 40), (10, .x 1)] [(40, .r 2000000 9 1 false)] = true := by kernel_rfl
def hyGs_p2 : LK := [(.bin .lss (.x 1) (.x 2), .b true), (.bin .eql (.s 1 32) (.x 0), .b true), (.sub (.x 0) none (some (.i .i64 (.ofNat 0))), .x 10), (.el (.x 2000000) (.x 1) 1 0, .x 11), (.rs (.x 2000000) (.x 1) (.x 10), .x 2000002), (.sub (.x 0) (some (.i .i64 (.ofNat 1))) none, .x 12), (.bin .add (.x 1) (.i .i64 (.ofNat 1)), .x 13)]
theorem runGs_p2 : RNGs_0 hyGs_p2 .normal [(0, .x 12), (1, .x 13), (2, .x 2), (2000000, .x 2000002)] [(40, 40)] 41 epGs_0 hpGs_0 = true := by kernel_rfl
theorem nxGs_p2 (ln : LB) (c0 : ln.length ≤ 8000000000000) (r : LB) (i : Int) (X : Nat → Value) (hI : InvGs ln (0, r, i)) (h0 : i < (((spl ln).length : Int) - 1)) (h1 : [u8 32] = r) : RHGs ln E' x' e' h' (0, r, i) X := by
  obtain ⟨i0, i1, i2, i3, it⟩ := unIGs ln 0 r i hI
  have hf := spl_f r
  have hcs := spl_cnt ln
  have := lenTake (l := r) (Q := 0) (by omega) (by omega)
  have := lenDrop (l := r) (P := 1) (by omega) (by omega)
  have hgs := gs_step i0 i2 (by first | omega | (have := sp_eq (by assumption); omega))
  refine stGs_0 ln r i (h := hyGs_p2) (0, (List.drop (Int.toNat (idxB r 32 + 1)) r), (i + 1)) ?_ (mkIGs ln 0 (List.drop (Int.toNat (idxB r 32 + 1)) r) (i + 1) ⟨by omega, by omega, hgs.1, by rw [List.length_drop]; omega, by omega⟩) (by show (spl ln).length - (i + 1).toNat < (spl ln).length - i.toNat; omega) (thXe (v := St' (List.drop (Int.toNat (1)) r)) (u := St' (List.drop (Int.toNat (idxB r 32 + 1)) r)) rfl rfl (congrArg (fun l => St' l) (by first | rfl | (rw [sp_eq (by assumption)]; rfl))) (thXi (b := ((i + 1))) rfl rfl (by omega) (thXv (v := .int .i64 ((((spl ln).length : Int) - 1))) rfl rfl (thXe (v := rwS (List.set (rwE (spl ln) i) (Int.toNat (i)) (List.take (Int.toNat (0)) r))) (u := rwS (rwE (spl ln) (i + 1))) rfl rfl (congrArg rwS ((congrArg (fun q => (rwE (spl ln) i).set i.toNat q) (by rw [sp_eq (by assumption)] : List.take (Int.toNat 0) r = r.take (idxB r 32).toNat)).trans hgs.2)) (thNil))))) runGs_p2
  unfold hyGs_p2
  exact hc (ltT rfl rfl (by omega)) <|
   hc (kEqS (isSx (l := [u8 32]) 1 32 rfl) (isX rfl) (by first | exact decide_eq_true rfl | exact decide_eq_true ‹_› | exact decide_eq_false ‹_›)) <|
   hc (tkC rfl rfl (by omega)) <|
   hc (kElN (j := (Int.toNat (i))) (isX rfl) (isX rfl) (denX rfl) (by omega) (by rw [rwE_len (by omega)]; omega)) <|
   hc (kRs (j := (Int.toNat (i))) (s := (List.take (Int.toNat (0)) r)) (isX rfl) (isX rfl) (isX rfl) (denX rfl) (by omega) (by rw [rwE_len (by omega)]; omega)) <|
   hc (drC rfl rfl (by omega)) <|
   hc (adC rfl rfl (by omega)) <|
   hnil
def nuEGs_0 (ln : LB) : List Value := [St' (nthS (spl ln) (Int.toNat (((spl ln).length : Int) - 1))), .int .i64 ((((spl ln).length : Int) - 1))]
def roEGs_0 (ln : LB) : List Value := [rwS (rwE (spl ln) (((spl ln).length : Int) - 1))]
noncomputable def EGs_0 (ln : LB) : Cx := cx (nuX (nuEGs_0 ln) (rX (roEGs_0 ln) (fun _ => .bool true))) (nuX_one (nuL_one (l := nuEGs_0 ln) rfl)) 1 laidE laidE_stab
theorem roundsGs_0 (ln : LB) (c0 : ln.length ≤ 8000000000000) (st : Nat × LB × Int) (X : Nat → Value) (hI : InvGs ln st) : RHGs ln (EGs_0 ln) (.exit 0) [(0, .x 0), (9, .sr 40), (10, .x 1)] [(40, .r 2000000 9 1 false)] st X := by
  obtain ⟨tag, r, i⟩ := st
  have hI0 := hI
  obtain ⟨i0, i1, i2, i3, it⟩ := unIGs ln tag r i hI
  obtain rfl : tag = 0 := by omega
  skip
  have hf := spl_f r
  have hcs := spl_cnt ln
  by_cases h0 : i < (((spl ln).length : Int) - 1)
  · by_cases h1 : [u8 32] = r
    · exact nxGs_p2 ln c0 r i X hI0 h0 h1
    · exact nxGs_p0 ln c0 r i X hI0 h0 h1
  · skip
    have hf := spl_f r
    have hcs := spl_cnt ln
    refine lvGs_0 ln r i (h := hyGs_p1) rfl ?_ (thXe (v := St' r) (u := St' (nthS (spl ln) (Int.toNat (((spl ln).length : Int) - 1)))) rfl rfl (congrArg (fun l => St' l) ((gs_end i2 (by omega)).trans (by congr 2; omega))) (thXi (b := ((((spl ln).length : Int) - 1))) rfl rfl (by omega) (thXe (v := rwS (rwE (spl ln) i)) (u := rwS (rwE (spl ln) (((spl ln).length : Int) - 1))) rfl rfl (congrArg rwS (congrArg (rwE (spl ln)) (by omega))) (thNil)))) runGs_p1
    unfold hyGs_p1
    exact hc (ltF rfl rfl (by omega)) <|
     hnil
theorem lfOkGs_0 {l : LF} {h : LH} (ln : LB) (c0 : ln.length ≤ 8000000000000) (st : Nat × LB × Int) (hI : InvGs ln st) (hl : l.hp = some h) (hs : lfSame l h 66 keepGs (.exit 0) 7 40 48 = true) {th0 : LA} {sg0 : List (Nat × Nat)} (hth0 : ∀ X, ThOk (cx nu one 1 laidE laidE_stab) (DGs ln st X) th0) (h0 : startOk l h 66 40 41 th0 sg0 (epGs st) (hpGs st) = true) {thx : LA} (hthx : ThOk (EGs_0 ln) (cx nu one 1 laidE laidE_stab) thx) (hx : exitOk l h 66 40 48 thx [(0, .x 0), (9, .sr 40), (10, .x 1)] [(40, .r 2000000 9 1 false)] = true) : LfOk (cx nu one 1 laidE laidE_stab) bodyGs l :=
  lfOkX (E := EGs_0 ln) (InvGs ln) (muGs ln) (DGs ln) (fun _ _ => rfl) (fun _ _ => rfl) (fun _ _ => rfl) (fun st X t ht => nuX_keep.trans (rX_keep ((by decide : ∀ t, t ∈ keepGs → t < 1000000) t ht))) rfl rfl rfl hl hs ebGs rfl rfl st hI hth0 h0 hthx hx (roundsGs_0 ln c0)
noncomputable def fi6 : FI := (tabk.fn.get 6).getD default
theorem fi6_at : tabk.fn.get 6 = some fi6 := by kernel_rfl
theorem fi6_body : fi6.body = some (Tryd.f6.body.getD .skip) := by kernel_rfl
theorem fiB6 : fi6.body.isSome = true := by rw [fi6_body]; rfl
theorem cfA6 : (loopsOf (Tryd.f6.body.getD .skip)).all (fun b => !(keyEq (Go.AX.keyOf b) 8888888)) = true := by kernel_rfl
noncomputable def fi28 : FI := (tabk.fn.get 28).getD default
theorem fi28_at : tabk.fn.get 28 = some fi28 := by kernel_rfl
theorem fi28_body : fi28.body = some (Tryd.f28.body.getD .skip) := by kernel_rfl
theorem fiB28 : fi28.body.isSome = true := by rw [fi28_body]; rfl
theorem cfA28 : (loopsOf (Tryd.f28.body.getD .skip)).all (fun b => !(keyEq (Go.AX.keyOf b) 8888888)) = true := by kernel_rfl
def aPParse : List AV := [.x 0]
def hpParse : LE := []
def nuParse (ln : LB) : List Value := [St' ln, .int .i64 (cntB ln 32), .int .i64 ((cntB ln 32) + 1), .int .i64 ((ln.length : Int)), .int .i64 ((ln.length : Int) + 1), .int .i64 ((cntB ln 32) + 1), .int .i64 ((cntB ln 32)), St' (nthS (spl ln) (Int.toNat (((spl ln).length : Int) - 1))), .int .i64 (((spl ln).length : Int) - 1), St' (nthS (rwE (spl ln) (((spl ln).length : Int) - 1)) (Int.toNat (((spl ln).length : Int) - 1))), .int .i64 (((spl ln).length : Int)), .int .i64 (((spl ln).length : Int)), .int .i64 (cntB ln 32), .int .i64 ((cntB ln 32) + 1), .int .i64 ((ln.length : Int)), .int .i64 ((ln.length : Int) + 1), .int .i64 ((cntB ln 32) + 1), .int .i64 ((cntB ln 32)), St' (nthS (spl ln) (Int.toNat (((spl ln).length : Int) - 1))), .int .i64 (((spl ln).length : Int) - 1), St' (nthS (rwE (spl ln) (((spl ln).length : Int) - 1)) (Int.toNat (((spl ln).length : Int) - 1))), .int .i64 (((spl ln).length : Int)), .int .i64 (((spl ln).length : Int)), St' (nthS (spl ln) 0), St' (nthS (spl ln) 1), St' (nthS (spl ln) 2), .int .i64 (((nthS (spl ln) 2).length : Int)), .int .i64 (((nthS (spl ln) 2).length : Int) - 1), .int .i64 (cntB ln 32), .int .i64 ((cntB ln 32) + 1), .int .i64 ((ln.length : Int)), .int .i64 ((ln.length : Int) + 1), .int .i64 ((cntB ln 32) + 1), .int .i64 ((cntB ln 32)), St' (nthS (spl ln) (Int.toNat (((spl ln).length : Int) - 1))), .int .i64 (((spl ln).length : Int) - 1), St' (nthS (rwE (spl ln) (((spl ln).length : Int) - 1)) (Int.toNat (((spl ln).length : Int) - 1))), .int .i64 (((spl ln).length : Int)), .int .i64 (((spl ln).length : Int)), St' (nthS (spl ln) 0), St' (nthS (spl ln) 1), St' (nthS (spl ln) 2), .int .i64 (((nthS (spl ln) 2).length : Int)), .int .i64 (((nthS (spl ln) 2).length : Int) - 1), .int .i64 (cntB ln 32), .int .i64 ((cntB ln 32) + 1), .int .i64 ((ln.length : Int)), .int .i64 ((ln.length : Int) + 1), .int .i64 ((cntB ln 32) + 1), .int .i64 ((cntB ln 32)), St' (nthS (spl ln) (Int.toNat (((spl ln).length : Int) - 1))), .int .i64 (((spl ln).length : Int) - 1), St' (nthS (rwE (spl ln) (((spl ln).length : Int) - 1)) (Int.toNat (((spl ln).length : Int) - 1))), .int .i64 (((spl ln).length : Int)), .int .i64 (((spl ln).length : Int)), St' (nthS (spl ln) 0), St' (nthS (spl ln) 1), St' (nthS (spl ln) 2), erK (verK (nthS (spl ln) 2)), erK (tgK (nthS (spl ln) 0) (nthS (spl ln) 1)), .int .i64 (cntB ln 32), .int .i64 ((cntB ln 32) + 1), .int .i64 ((ln.length : Int)), .int .i64 ((ln.length : Int) + 1), .int .i64 ((cntB ln 32) + 1), .int .i64 ((cntB ln 32)), St' (nthS (spl ln) (Int.toNat (((spl ln).length : Int) - 1))), .int .i64 (((spl ln).length : Int) - 1), St' (nthS (rwE (spl ln) (((spl ln).length : Int) - 1)) (Int.toNat (((spl ln).length : Int) - 1))), .int .i64 (((spl ln).length : Int)), .int .i64 (((spl ln).length : Int)), St' (nthS (spl ln) 0), St' (nthS (spl ln) 1), St' (nthS (spl ln) 2), erK (tgK (nthS (spl ln) 0) (nthS (spl ln) 1)), .int .i64 (cntB ln 32), .int .i64 ((cntB ln 32) + 1), .int .i64 ((ln.length : Int)), .int .i64 ((ln.length : Int) + 1), .int .i64 ((cntB ln 32) + 1), .int .i64 ((cntB ln 32)), St' (nthS (spl ln) (Int.toNat (((spl ln).length : Int) - 1))), .int .i64 (((spl ln).length : Int) - 1), St' (nthS (rwE (spl ln) (((spl ln).length : Int) - 1)) (Int.toNat (((spl ln).length : Int) - 1))), .int .i64 (((spl ln).length : Int)), .int .i64 (((spl ln).length : Int)), St' (nthS (spl ln) 0), St' (nthS (spl ln) 1), St' (nthS (spl ln) 2), erK (tgK (nthS (spl ln) 0) (nthS (spl ln) 1)), .int .i64 (cntB ln 32), .int .i64 ((cntB ln 32) + 1), .int .i64 ((ln.length : Int)), .int .i64 ((ln.length : Int) + 1), .int .i64 ((cntB ln 32) + 1), .int .i64 ((cntB ln 32)), St' (nthS (spl ln) (Int.toNat (((spl ln).length : Int) - 1))), .int .i64 (((spl ln).length : Int) - 1), St' (nthS (rwE (spl ln) (((spl ln).length : Int) - 1)) (Int.toNat (((spl ln).length : Int) - 1))), .int .i64 (((spl ln).length : Int)), .int .i64 (((spl ln).length : Int)), St' (nthS (spl ln) 0), St' (nthS (spl ln) 1), St' (nthS (spl ln) 2), .int .i64 (cntB ln 32), .int .i64 ((cntB ln 32) + 1), .int .i64 ((ln.length : Int)), .int .i64 ((ln.length : Int) + 1), .int .i64 ((cntB ln 32) + 1), .int .i64 ((cntB ln 32)), St' (nthS (spl ln) (Int.toNat (((spl ln).length : Int) - 1))), .int .i64 (((spl ln).length : Int) - 1), St' (nthS (rwE (spl ln) (((spl ln).length : Int) - 1)) (Int.toNat (((spl ln).length : Int) - 1))), .int .i64 (((spl ln).length : Int)), .int .i64 (((spl ln).length : Int)), St' (nthS (spl ln) 0), St' (nthS (spl ln) 1), St' (nthS (spl ln) 2), .int .i64 (cntB ln 32), .int .i64 ((cntB ln 32) + 1), .int .i64 ((ln.length : Int)), .int .i64 ((ln.length : Int) + 1), .int .i64 ((cntB ln 32) + 1), .int .i64 ((cntB ln 32)), St' (nthS (spl ln) (Int.toNat (((spl ln).length : Int) - 1))), .int .i64 (((spl ln).length : Int) - 1), St' (nthS (rwE (spl ln) (((spl ln).length : Int) - 1)) (Int.toNat (((spl ln).length : Int) - 1))), .int .i64 (((spl ln).length : Int)), .int .i64 (((spl ln).length : Int)), St' (nthS (spl ln) 0), St' (nthS (spl ln) 1), St' (nthS (spl ln) 2)]
def roParse (ln : LB) : List Value := [rwS (List.replicate (Int.toNat ((cntB ln 32) + 1)) []), rwS (rwE (spl ln) (((spl ln).length : Int) - 1)), rwS (spl ln), rwS (spl ln), rwS (List.replicate (Int.toNat ((cntB ln 32) + 1)) []), rwS (rwE (spl ln) (((spl ln).length : Int) - 1)), rwS (spl ln), rwS (spl ln), rwS (List.replicate (Int.toNat ((cntB ln 32) + 1)) []), rwS (rwE (spl ln) (((spl ln).length : Int) - 1)), rwS (spl ln), rwS (spl ln), rwS (List.replicate (Int.toNat ((cntB ln 32) + 1)) []), rwS (rwE (spl ln) (((spl ln).length : Int) - 1)), rwS (spl ln), rwS (spl ln), rwS (List.replicate (Int.toNat ((cntB ln 32) + 1)) []), rwS (rwE (spl ln) (((spl ln).length : Int) - 1)), rwS (spl ln), rwS (spl ln), rwS (List.replicate (Int.toNat ((cntB ln 32) + 1)) []), rwS (rwE (spl ln) (((spl ln).length : Int) - 1)), rwS (spl ln), rwS (spl ln), rwS (List.replicate (Int.toNat ((cntB ln 32) + 1)) []), rwS (rwE (spl ln) (((spl ln).length : Int) - 1)), rwS (spl ln), rwS (spl ln), rwS (List.replicate (Int.toNat ((cntB ln 32) + 1)) []), rwS (rwE (spl ln) (((spl ln).length : Int) - 1)), rwS (spl ln), rwS (spl ln), rwS (List.replicate (Int.toNat ((cntB ln 32) + 1)) []), rwS (rwE (spl ln) (((spl ln).length : Int) - 1)), rwS (spl ln), rwS (spl ln)]
noncomputable def DParse (ln : LB) : Cx := cx (nuX (nuParse ln) (rX (roParse ln) (fun _ => .bool true))) (nuX_one (nuL_one (l := nuParse ln) (by unfold nuParse; simp only [List.all_cons, erK_one, Bool.true_and]; rfl))) 1 laidE laidE_stab
def hyParse_c0 : LK := [(.ext 52 [.x 0, .i .u8 (.ofNat 32)], .x 1), (.bin .add (.x 1) (.i .i64 (.ofNat 1)), .x 2), (.len (.x 0), .x 3), (.bin .add (.x 3) (.i .i64 (.ofNat 1)), .x 4), (.mm false (.x 2) (.x 4), .x 5), (.rz (.x 5), .x 2000000), (.bin .sub (.x 5) (.i .i64 (.ofNat 1)), .x 6), (.el (.x 2000001) (.x 8) 1 0, .x 9), (.rs (.x 2000001) (.x 8) (.x 7), .x 2000002), (.bin .add (.x 8) (.i .i64 (.ofNat 1)), .x 10), (.rt (.x 2000002) (.x 10) 1, .x 2000003), (.rl (.x 2000003) 1, .x 11), (.bin .neq (.x 11) (.i .i64 (.ofNat 3)), .b true)]
def lh12 : LH := ⟨7, 40, 48, [(21, .r 2000000 9 1 false)], [(40, .r 2000001 9 1 false)]⟩
def lf12 : LF := ⟨11, 66, [(0, .x 0), (1, .s 1 32), (2, .i .i64 (.ofNat 0)), (3, .x 6), (9, .sr 21), (10, .i .i64 (.ofNat 0))], [], (.exit 0), [(0, .x 7), (9, .sr 40), (10, .x 8)], some lh12⟩
noncomputable def tbParse_c0 : Tab := addLps ((tbl hyParse_c0)) 28 fi28 [lf12]
theorem runParse_c0 (e : Nat) : okCf (call tbParse_c0 3000 6 aPParse ⟨lhSet hpParse ((fun e : Nat => H0 e) e), 20, 0, 0⟩) (.tu [.ag [.s 0 0, .s 0 0, .i .i64 (.ofNat 0), .nils, .s 0 0], .ifc 60 (.ag [.x 0, .x 1])]) [(0, .i .i64 (.ofNat 10)), (1, .s 38 14699107778994494665870517996486432588710648038438484142077422101238628065412497674488389729)] [] 20 60 [] = true := by kernel_rfl
def hyParse_c1 : LK := [(.ext 52 [.x 0, .i .u8 (.ofNat 32)], .x 12), (.bin .add (.x 12) (.i .i64 (.ofNat 1)), .x 13), (.len (.x 0), .x 14), (.bin .add (.x 14) (.i .i64 (.ofNat 1)), .x 15), (.mm false (.x 13) (.x 15), .x 16), (.rz (.x 16), .x 2000004), (.bin .sub (.x 16) (.i .i64 (.ofNat 1)), .x 17), (.el (.x 2000005) (.x 19) 1 0, .x 20), (.rs (.x 2000005) (.x 19) (.x 18), .x 2000006), (.bin .add (.x 19) (.i .i64 (.ofNat 1)), .x 21), (.rt (.x 2000006) (.x 21) 1, .x 2000007), (.rl (.x 2000007) 1, .x 22), (.bin .neq (.x 22) (.i .i64 (.ofNat 3)), .b false), (.el (.x 2000007) (.i .i64 (.ofNat 0)) 1 0, .x 23), (.el (.x 2000007) (.i .i64 (.ofNat 1)) 1 0, .x 24), (.call 16 [.x 23], .ni), (.el (.x 2000007) (.i .i64 (.ofNat 2)) 1 0, .x 25), (.call 17 [.x 25], .ni), (.call 18 [.ag [.x 23, .x 24, .i .i64 (.ofNat 0), .nils, .s 0 0]], .ni), (.len (.x 25), .x 26), (.bin .sub (.x 26) (.i .i64 (.ofNat 1)), .x 27), (.idx (.x 25) (.x 27), .i .u8 (.ofNat 49))]
def lh13 : LH := ⟨7, 40, 48, [(21, .r 2000004 9 1 false)], [(40, .r 2000005 9 1 false)]⟩
def lf13 : LF := ⟨11, 66, [(0, .x 0), (1, .s 1 32), (2, .i .i64 (.ofNat 0)), (3, .x 17), (9, .sr 21), (10, .i .i64 (.ofNat 0))], [], (.exit 0), [(0, .x 18), (9, .sr 40), (10, .x 19)], some lh13⟩
noncomputable def tbParse_c1 : Tab := addLps ((tbl hyParse_c1)) 28 fi28 [lf13]
theorem runParse_c1 (e : Nat) : okCf (call tbParse_c1 3000 6 aPParse ⟨lhSet hpParse ((fun e : Nat => H0 e) e), 20, 0, 0⟩) (.tu [.ag [.x 0, .x 1, .i .i64 (.ofNat 1), .nils, .s 0 0], .ni]) [(0, .x 23), (1, .x 24)] [] 20 60 [] = true := by kernel_rfl
def hyParse_c2 : LK := [(.ext 52 [.x 0, .i .u8 (.ofNat 32)], .x 28), (.bin .add (.x 28) (.i .i64 (.ofNat 1)), .x 29), (.len (.x 0), .x 30), (.bin .add (.x 30) (.i .i64 (.ofNat 1)), .x 31), (.mm false (.x 29) (.x 31), .x 32), (.rz (.x 32), .x 2000008), (.bin .sub (.x 32) (.i .i64 (.ofNat 1)), .x 33), (.el (.x 2000009) (.x 35) 1 0, .x 36), (.rs (.x 2000009) (.x 35) (.x 34), .x 2000010), (.bin .add (.x 35) (.i .i64 (.ofNat 1)), .x 37), (.rt (.x 2000010) (.x 37) 1, .x 2000011), (.rl (.x 2000011) 1, .x 38), (.bin .neq (.x 38) (.i .i64 (.ofNat 3)), .b false), (.el (.x 2000011) (.i .i64 (.ofNat 0)) 1 0, .x 39), (.el (.x 2000011) (.i .i64 (.ofNat 1)) 1 0, .x 40), (.call 16 [.x 39], .ni), (.el (.x 2000011) (.i .i64 (.ofNat 2)) 1 0, .x 41), (.call 17 [.x 41], .ni), (.call 18 [.ag [.x 39, .x 40, .i .i64 (.ofNat 0), .nils, .s 0 0]], .ni), (.len (.x 41), .x 42), (.bin .sub (.x 42) (.i .i64 (.ofNat 1)), .x 43), (.idx (.x 41) (.x 43), .i .u8 (.ofNat 48))]
def lh14 : LH := ⟨7, 40, 48, [(21, .r 2000008 9 1 false)], [(40, .r 2000009 9 1 false)]⟩
def lf14 : LF := ⟨11, 66, [(0, .x 0), (1, .s 1 32), (2, .i .i64 (.ofNat 0)), (3, .x 33), (9, .sr 21), (10, .i .i64 (.ofNat 0))], [], (.exit 0), [(0, .x 34), (9, .sr 40), (10, .x 35)], some lh14⟩
noncomputable def tbParse_c2 : Tab := addLps ((tbl hyParse_c2)) 28 fi28 [lf14]
theorem runParse_c2 (e : Nat) : okCf (call tbParse_c2 3000 6 aPParse ⟨lhSet hpParse ((fun e : Nat => H0 e) e), 20, 0, 0⟩) (.tu [.ag [.x 0, .x 1, .i .i64 (.ofNat 0), .nils, .s 0 0], .ni]) [(0, .x 39), (1, .x 40)] [] 20 60 [] = true := by kernel_rfl
def hyParse_c3 : LK := [(.ext 52 [.x 0, .i .u8 (.ofNat 32)], .x 44), (.bin .add (.x 44) (.i .i64 (.ofNat 1)), .x 45), (.len (.x 0), .x 46), (.bin .add (.x 46) (.i .i64 (.ofNat 1)), .x 47), (.mm false (.x 45) (.x 47), .x 48), (.rz (.x 48), .x 2000012), (.bin .sub (.x 48) (.i .i64 (.ofNat 1)), .x 49), (.el (.x 2000013) (.x 51) 1 0, .x 52), (.rs (.x 2000013) (.x 51) (.x 50), .x 2000014), (.bin .add (.x 51) (.i .i64 (.ofNat 1)), .x 53), (.rt (.x 2000014) (.x 53) 1, .x 2000015), (.rl (.x 2000015) 1, .x 54), (.bin .neq (.x 54) (.i .i64 (.ofNat 3)), .b false), (.el (.x 2000015) (.i .i64 (.ofNat 0)) 1 0, .x 55), (.el (.x 2000015) (.i .i64 (.ofNat 1)) 1 0, .x 56), (.call 16 [.x 55], .ifc 60 (.ag [.i .i64 (.ofNat 10), .s 21 148242139331322749289446818328510565105317482143841])), (.el (.x 2000015) (.i .i64 (.ofNat 2)) 1 0, .x 57), (.call 17 [.x 57], .x 58), (.call 18 [.ag [.x 55, .x 56, .i .i64 (.ofNat 0), .nils, .s 0 0]], .x 59)]
def lh15 : LH := ⟨7, 40, 48, [(21, .r 2000012 9 1 false)], [(40, .r 2000013 9 1 false)]⟩
def lf15 : LF := ⟨11, 66, [(0, .x 0), (1, .s 1 32), (2, .i .i64 (.ofNat 0)), (3, .x 49), (9, .sr 21), (10, .i .i64 (.ofNat 0))], [], (.exit 0), [(0, .x 50), (9, .sr 40), (10, .x 51)], some lh15⟩
noncomputable def tbParse_c3 : Tab := addLps ((tbl hyParse_c3)) 28 fi28 [lf15]
theorem runParse_c3 (e : Nat) : okCf (call tbParse_c3 3000 6 aPParse ⟨lhSet hpParse ((fun e : Nat => H0 e) e), 20, 0, 0⟩) (.tu [.ag [.s 0 0, .s 0 0, .i .i64 (.ofNat 0), .nils, .s 0 0], .ifc 60 (.ag [.x 0, .x 1])]) [(0, .i .i64 (.ofNat 10)), (1, .s 21 148242139331322749289446818328510565105317482143841)] [] 20 60 [] = true := by kernel_rfl
def hyParse_c4 : LK := [(.ext 52 [.x 0, .i .u8 (.ofNat 32)], .x 60), (.bin .add (.x 60) (.i .i64 (.ofNat 1)), .x 61), (.len (.x 0), .x 62), (.bin .add (.x 62) (.i .i64 (.ofNat 1)), .x 63), (.mm false (.x 61) (.x 63), .x 64), (.rz (.x 64), .x 2000016), (.bin .sub (.x 64) (.i .i64 (.ofNat 1)), .x 65), (.el (.x 2000017) (.x 67) 1 0, .x 68), (.rs (.x 2000017) (.x 67) (.x 66), .x 2000018), (.bin .add (.x 67) (.i .i64 (.ofNat 1)), .x 69), (.rt (.x 2000018) (.x 69) 1, .x 2000019), (.rl (.x 2000019) 1, .x 70), (.bin .neq (.x 70) (.i .i64 (.ofNat 3)), .b false), (.el (.x 2000019) (.i .i64 (.ofNat 0)) 1 0, .x 71), (.el (.x 2000019) (.i .i64 (.ofNat 1)) 1 0, .x 72), (.call 16 [.x 71], .ni), (.el (.x 2000019) (.i .i64 (.ofNat 2)) 1 0, .x 73), (.call 17 [.x 73], .ifc 60 (.ag [.i .i64 (.ofNat 13), .s 23 7694029013446026437275817960271408410624107796103130721])), (.call 18 [.ag [.x 71, .x 72, .i .i64 (.ofNat 0), .nils, .s 0 0]], .x 74)]
def lh16 : LH := ⟨7, 40, 48, [(21, .r 2000016 9 1 false)], [(40, .r 2000017 9 1 false)]⟩
def lf16 : LF := ⟨11, 66, [(0, .x 0), (1, .s 1 32), (2, .i .i64 (.ofNat 0)), (3, .x 65), (9, .sr 21), (10, .i .i64 (.ofNat 0))], [], (.exit 0), [(0, .x 66), (9, .sr 40), (10, .x 67)], some lh16⟩
noncomputable def tbParse_c4 : Tab := addLps ((tbl hyParse_c4)) 28 fi28 [lf16]
theorem runParse_c4 (e : Nat) : okCf (call tbParse_c4 3000 6 aPParse ⟨lhSet hpParse ((fun e : Nat => H0 e) e), 20, 0, 0⟩) (.tu [.ag [.s 0 0, .s 0 0, .i .i64 (.ofNat 0), .nils, .s 0 0], .ifc 60 (.ag [.x 0, .x 1])]) [(0, .i .i64 (.ofNat 13)), (1, .s 23 7694029013446026437275817960271408410624107796103130721)] [] 20 60 [] = true := by kernel_rfl
def hyParse_c5 : LK := [(.ext 52 [.x 0, .i .u8 (.ofNat 32)], .x 75), (.bin .add (.x 75) (.i .i64 (.ofNat 1)), .x 76), (.len (.x 0), .x 77), (.bin .add (.x 77) (.i .i64 (.ofNat 1)), .x 78), (.mm false (.x 76) (.x 78), .x 79), (.rz (.x 79), .x 2000020), (.bin .sub (.x 79) (.i .i64 (.ofNat 1)), .x 80), (.el (.x 2000021) (.x 82) 1 0, .x 83), (.rs (.x 2000021) (.x 82) (.x 81), .x 2000022), (.bin .add (.x 82) (.i .i64 (.ofNat 1)), .x 84), (.rt (.x 2000022) (.x 84) 1, .x 2000023), (.rl (.x 2000023) 1, .x 85), (.bin .neq (.x 85) (.i .i64 (.ofNat 3)), .b false), (.el (.x 2000023) (.i .i64 (.ofNat 0)) 1 0, .x 86), (.el (.x 2000023) (.i .i64 (.ofNat 1)) 1 0, .x 87), (.call 16 [.x 86], .ni), (.el (.x 2000023) (.i .i64 (.ofNat 2)) 1 0, .x 88), (.call 17 [.x 88], .ifc 60 (.ag [.i .i64 (.ofNat 10), .s 22 37949987668818623818098385492098889134682443695399009])), (.call 18 [.ag [.x 86, .x 87, .i .i64 (.ofNat 0), .nils, .s 0 0]], .x 89)]
def lh17 : LH := ⟨7, 40, 48, [(21, .r 2000020 9 1 false)], [(40, .r 2000021 9 1 false)]⟩
def lf17 : LF := ⟨11, 66, [(0, .x 0), (1, .s 1 32), (2, .i .i64 (.ofNat 0)), (3, .x 80), (9, .sr 21), (10, .i .i64 (.ofNat 0))], [], (.exit 0), [(0, .x 81), (9, .sr 40), (10, .x 82)], some lh17⟩
noncomputable def tbParse_c5 : Tab := addLps ((tbl hyParse_c5)) 28 fi28 [lf17]
theorem runParse_c5 (e : Nat) : okCf (call tbParse_c5 3000 6 aPParse ⟨lhSet hpParse ((fun e : Nat => H0 e) e), 20, 0, 0⟩) (.tu [.ag [.s 0 0, .s 0 0, .i .i64 (.ofNat 0), .nils, .s 0 0], .ifc 60 (.ag [.x 0, .x 1])]) [(0, .i .i64 (.ofNat 10)), (1, .s 22 37949987668818623818098385492098889134682443695399009)] [] 20 60 [] = true := by kernel_rfl
def hyParse_c6 : LK := [(.ext 52 [.x 0, .i .u8 (.ofNat 32)], .x 90), (.bin .add (.x 90) (.i .i64 (.ofNat 1)), .x 91), (.len (.x 0), .x 92), (.bin .add (.x 92) (.i .i64 (.ofNat 1)), .x 93), (.mm false (.x 91) (.x 93), .x 94), (.rz (.x 94), .x 2000024), (.bin .sub (.x 94) (.i .i64 (.ofNat 1)), .x 95), (.el (.x 2000025) (.x 97) 1 0, .x 98), (.rs (.x 2000025) (.x 97) (.x 96), .x 2000026), (.bin .add (.x 97) (.i .i64 (.ofNat 1)), .x 99), (.rt (.x 2000026) (.x 99) 1, .x 2000027), (.rl (.x 2000027) 1, .x 100), (.bin .neq (.x 100) (.i .i64 (.ofNat 3)), .b false), (.el (.x 2000027) (.i .i64 (.ofNat 0)) 1 0, .x 101), (.el (.x 2000027) (.i .i64 (.ofNat 1)) 1 0, .x 102), (.call 16 [.x 101], .ni), (.el (.x 2000027) (.i .i64 (.ofNat 2)) 1 0, .x 103), (.call 17 [.x 103], .ni), (.call 18 [.ag [.x 101, .x 102, .i .i64 (.ofNat 0), .nils, .s 0 0]], .ifc 60 (.ag [.i .i64 (.ofNat 10), .s 40 871505283004493870769806937757998125236887781506997808754714081589081906263377667276670613332065]))]
def lh18 : LH := ⟨7, 40, 48, [(21, .r 2000024 9 1 false)], [(40, .r 2000025 9 1 false)]⟩
def lf18 : LF := ⟨11, 66, [(0, .x 0), (1, .s 1 32), (2, .i .i64 (.ofNat 0)), (3, .x 95), (9, .sr 21), (10, .i .i64 (.ofNat 0))], [], (.exit 0), [(0, .x 96), (9, .sr 40), (10, .x 97)], some lh18⟩
noncomputable def tbParse_c6 : Tab := addLps ((tbl hyParse_c6)) 28 fi28 [lf18]
theorem runParse_c6 (e : Nat) : okCf (call tbParse_c6 3000 6 aPParse ⟨lhSet hpParse ((fun e : Nat => H0 e) e), 20, 0, 0⟩) (.tu [.ag [.s 0 0, .s 0 0, .i .i64 (.ofNat 0), .nils, .s 0 0], .ifc 60 (.ag [.x 0, .x 1])]) [(0, .i .i64 (.ofNat 10)), (1, .s 40 871505283004493870769806937757998125236887781506997808754714081589081906263377667276670613332065)] [] 20 60 [] = true := by kernel_rfl
def hyParse_c7 : LK := [(.ext 52 [.x 0, .i .u8 (.ofNat 32)], .x 104), (.bin .add (.x 104) (.i .i64 (.ofNat 1)), .x 105), (.len (.x 0), .x 106), (.bin .add (.x 106) (.i .i64 (.ofNat 1)), .x 107), (.mm false (.x 105) (.x 107), .x 108), (.rz (.x 108), .x 2000028), (.bin .sub (.x 108) (.i .i64 (.ofNat 1)), .x 109), (.el (.x 2000029) (.x 111) 1 0, .x 112), (.rs (.x 2000029) (.x 111) (.x 110), .x 2000030), (.bin .add (.x 111) (.i .i64 (.ofNat 1)), .x 113), (.rt (.x 2000030) (.x 113) 1, .x 2000031), (.rl (.x 2000031) 1, .x 114), (.bin .neq (.x 114) (.i .i64 (.ofNat 3)), .b false), (.el (.x 2000031) (.i .i64 (.ofNat 0)) 1 0, .x 115), (.el (.x 2000031) (.i .i64 (.ofNat 1)) 1 0, .x 116), (.call 16 [.x 115], .ni), (.el (.x 2000031) (.i .i64 (.ofNat 2)) 1 0, .x 117), (.call 17 [.x 117], .ni), (.call 18 [.ag [.x 115, .x 116, .i .i64 (.ofNat 0), .nils, .s 0 0]], .ifc 60 (.ag [.i .i64 (.ofNat 10), .s 36 196954198101182485193943607980673202969989419486444167134463484752728882060117583077473]))]
def lh19 : LH := ⟨7, 40, 48, [(21, .r 2000028 9 1 false)], [(40, .r 2000029 9 1 false)]⟩
def lf19 : LF := ⟨11, 66, [(0, .x 0), (1, .s 1 32), (2, .i .i64 (.ofNat 0)), (3, .x 109), (9, .sr 21), (10, .i .i64 (.ofNat 0))], [], (.exit 0), [(0, .x 110), (9, .sr 40), (10, .x 111)], some lh19⟩
noncomputable def tbParse_c7 : Tab := addLps ((tbl hyParse_c7)) 28 fi28 [lf19]
theorem runParse_c7 (e : Nat) : okCf (call tbParse_c7 3000 6 aPParse ⟨lhSet hpParse ((fun e : Nat => H0 e) e), 20, 0, 0⟩) (.tu [.ag [.s 0 0, .s 0 0, .i .i64 (.ofNat 0), .nils, .s 0 0], .ifc 60 (.ag [.x 0, .x 1])]) [(0, .i .i64 (.ofNat 10)), (1, .s 36 196954198101182485193943607980673202969989419486444167134463484752728882060117583077473)] [] 20 60 [] = true := by kernel_rfl
def hyParse_c8 : LK := [(.ext 52 [.x 0, .i .u8 (.ofNat 32)], .x 118), (.bin .add (.x 118) (.i .i64 (.ofNat 1)), .x 119), (.len (.x 0), .x 120), (.bin .add (.x 120) (.i .i64 (.ofNat 1)), .x 121), (.mm false (.x 119) (.x 121), .x 122), (.rz (.x 122), .x 2000032), (.bin .sub (.x 122) (.i .i64 (.ofNat 1)), .x 123), (.el (.x 2000033) (.x 125) 1 0, .x 126), (.rs (.x 2000033) (.x 125) (.x 124), .x 2000034), (.bin .add (.x 125) (.i .i64 (.ofNat 1)), .x 127), (.rt (.x 2000034) (.x 127) 1, .x 2000035), (.rl (.x 2000035) 1, .x 128), (.bin .neq (.x 128) (.i .i64 (.ofNat 3)), .b false), (.el (.x 2000035) (.i .i64 (.ofNat 0)) 1 0, .x 129), (.el (.x 2000035) (.i .i64 (.ofNat 1)) 1 0, .x 130), (.call 16 [.x 129], .ni), (.el (.x 2000035) (.i .i64 (.ofNat 2)) 1 0, .x 131), (.call 17 [.x 131], .ni), (.call 18 [.ag [.x 129, .x 130, .i .i64 (.ofNat 0), .nils, .s 0 0]], .ifc 60 (.ag [.i .i64 (.ofNat 12), .s 25 649249343039568344963490732249631573126175255935168103587937]))]
def lh20 : LH := ⟨7, 40, 48, [(21, .r 2000032 9 1 false)], [(40, .r 2000033 9 1 false)]⟩
def lf20 : LF := ⟨11, 66, [(0, .x 0), (1, .s 1 32), (2, .i .i64 (.ofNat 0)), (3, .x 123), (9, .sr 21), (10, .i .i64 (.ofNat 0))], [], (.exit 0), [(0, .x 124), (9, .sr 40), (10, .x 125)], some lh20⟩
noncomputable def tbParse_c8 : Tab := addLps ((tbl hyParse_c8)) 28 fi28 [lf20]
theorem runParse_c8 (e : Nat) : okCf (call tbParse_c8 3000 6 aPParse ⟨lhSet hpParse ((fun e : Nat => H0 e) e), 20, 0, 0⟩) (.tu [.ag [.s 0 0, .s 0 0, .i .i64 (.ofNat 0), .nils, .s 0 0], .ifc 60 (.ag [.x 0, .x 1])]) [(0, .i .i64 (.ofNat 12)), (1, .s 25 649249343039568344963490732249631573126175255935168103587937)] [] 20 60 [] = true := by kernel_rfl
def nuEParse_0 (ln : LB) : List Value := [St' (nthS (spl ln) 0), St' (nthS (spl ln) 1)]
def roEParse_0 (ln : LB) : List Value := []
noncomputable def EParse_0 (ln : LB) : Cx := cx (nuX (nuEParse_0 ln) (rX (roEParse_0 ln) (fun _ => .bool true))) (nuX_one (nuL_one (l := nuEParse_0 ln) rfl)) 1 laidE laidE_stab
theorem cfParse_0 {l : LF} {h : LH} {q : Nat × AV} (ln : LB) (p0 : ln.length ≤ 1048576) (x0 : stK ln = 0) (x1 : (nthS (spl ln) 2) = lV0) (hl : l.hp = some h) (hq : l.post = [q]) (hs : cfSame l h 7 20 60 = true) {th0 : LA} {sg0 : List (Nat × Nat)} (hth0 : ThOk (cx nu one 1 laidE laidE_stab) (DParse ln) th0) (h0 : (inAs th0 (sgB 20 20 sg0) aPParse (l.pre.map (·.2)) && inHeap 20 20 th0 sg0 (lhSet h.pre .leaf) hpParse && nodupN (numsOf 20 sg0 hpParse)) = true) {thx : LA} (hthx : ThOk (EParse_0 ln) (cx nu one 1 laidE laidE_stab) thx) (hx : (inA thx (sgB 20 60 []) 8 q.2 (.tu [.ag [.x 0, .x 1, .i .i64 (.ofNat 0), .nils, .s 0 0], .ni]) && inHeap 20 60 thx [] (lhSet [] .leaf) h.post && nodupN (numsOf 20 [] h.post)) = true) : CfOk (cx nu one 1 laidE laidE_stab) 6 l := by
  have hcs := spl_cnt ln
  by_cases d1 : ((spl ln).length : Int) = 3
  · by_cases d2 : mthK (nthS (spl ln) 0) = true
    · by_cases d3 : verK (nthS (spl ln) 2) = 0
      · by_cases d4 : tgK (nthS (spl ln) 0) (nthS (spl ln) 1) = 0
        · by_cases d5 : (nthS (spl ln) 2) = lV1
          · exfalso; (have hcs := spl_cnt ln); (have := spl_le ln 0); (have := spl_le ln 1); (have := spl_le ln 2); (have hvk := verK_cases (nthS (spl ln) 2)); (have htk := tgK_cases (nthS (spl ln) 0) (nthS (spl ln) 1)); (have hvl : (nthS (spl ln) 2).length = 8 := by rw [(by assumption : (nthS (spl ln) 2) = lV1)]; rfl); (have hsk : stK ln = 0 := sK4 (by omega) (by assumption) (by assumption) (by assumption)); exact absurd x1 (by rw [(by first | assumption | exact vr_o (by assumption) (by assumption) : (nthS (spl ln) 2) = lV1)]; decide)
          · skip
            have hcs := spl_cnt ln
            have := spl_le ln 0
            have := spl_le ln 1
            have := spl_le ln 2
            have hvk := verK_cases (nthS (spl ln) 2)
            have htk := tgK_cases (nthS (spl ln) 0) (nthS (spl ln) 1)
            have hv0 : (nthS (spl ln) 2) = lV0 := vr_o (by assumption) (by assumption)
            have hvl : (nthS (spl ln) 2).length = 8 := by rw [(by assumption : (nthS (spl ln) 2) = lV0)]; rfl
            have hsk : stK ln = 0 := sK4 (by omega) (by assumption) (by assumption) (by assumption)
            have ho : ∀ a' r', (a', r') ∈ hyParse_c2 → HOk (DParse ln) a' r' := by
              unfold hyParse_c2
              exact hc (kExtC (n := cntB ln 32) exF52 exA52 exB52 (isX rfl) (isZ (m := 32) rfl) (denX rfl) rfl) <|
               hc (adC rfl rfl (by omega)) <|
               hc (lnV rfl rfl (by omega)) <|
               hc (adC rfl rfl (by omega)) <|
               hc (kMin (isX rfl) (isX rfl) (denX rfl) (by omega)) <|
               hc (kRz (isX rfl) (by omega) (by omega) (denX rfl)) <|
               hc (sbC rfl rfl (by omega)) <|
               hc (kElN (j := (Int.toNat (((spl ln).length : Int) - 1))) (isX rfl) (isX rfl) (denX rfl) (by omega) (by rw [rwE_len (by omega)]; omega)) <|
               hc (kRs (j := (Int.toNat (((spl ln).length : Int) - 1))) (s := (nthS (spl ln) (Int.toNat (((spl ln).length : Int) - 1)))) (isX rfl) (isX rfl) (isX rfl) (denX (v := rwS (List.set _ _ _)) (congrArg rwS (rwE_last (l := (spl ln)) (i := ((spl ln).length : Int) - 1) (by omega) (by omega)).symm)) (by omega) (by rw [rwE_len (by omega)]; omega)) <|
               hc (adC rfl rfl (by omega)) <|
               hc (kRtS (j := (Int.toNat (((spl ln).length : Int)))) (isX rfl) (isX rfl) (denX (congrArg rwS (List.take_of_length_le (l := (spl ln)) (i := (Int.toNat (((spl ln).length : Int)))) (by omega)).symm)) (by omega) (by omega)) <|
               hc (kRl (isX rfl) (denX rfl) (by first | omega | (simp <;> omega))) <|
               hc (necF rfl (by omega)) <|
               hc (kElN (j := 0) (isX rfl) (isZ (m := 0) rfl) (denX rfl) (by omega) (by omega)) <|
               hc (kElN (j := 1) (isX rfl) (isZ (m := 1) rfl) (denX rfl) (by omega) (by omega)) <|
               hc (hokMeth (s := (nthS (spl ln) 0)) (isX rfl) (by rw [mtN, if_pos (by assumption)]; exact denNn) (by omega) (by omega)) <|
               hc (kElN (j := 2) (isX rfl) (isZ (m := 2) rfl) (denX rfl) (by omega) (by omega)) <|
               hc (hokVers (s := (nthS (spl ln) 2)) (isX rfl) (by rw [(by assumption : verK (nthS (spl ln) 2) = 0)]; exact denNn) (by omega) (by omega)) <|
               hc (hokTarg (m := (nthS (spl ln) 0)) (t := (nthS (spl ln) 1)) (isRq (isX rfl) (isX rfl)) (by rw [(by assumption : tgK (nthS (spl ln) 0) (nthS (spl ln) 1) = 0)]; exact denNn) (by omega) (by omega)) <|
               hc (lnV rfl rfl (by omega)) <|
               hc (sbC rfl rfl (by omega)) <|
               hc (kIdxE (i := 7) (isX rfl) (isX rfl) (denZ (m := 48) rfl) (by omega) (by omega) (by rw [(by assumption : (nthS (spl ln) 2) = lV0)]; rfl)) <|
               hnil
            exact cfOkX (D := DParse ln) (E := EParse_0 ln) (Gf := (fun e : Nat => H0 e)) (f := 3000) (tb := tbParse_c2) rfl rfl rfl rfl rfl rfl hl hq hs rfl hth0 h0 hthx hx (AllOk.lp1 ((tabkOk _ _).hyps ho) (by omega) fi28_at fi28_body (lfCons (lpKnown rfl ⟨0, keyGs, lfOkGs_0 (l := lf14) (h := lh14) ln (by omega) (0, ln, (0 : Int)) (mkIGs ln 0 ln (0 : Int) ⟨by omega, by omega, rfl, by omega, by omega⟩) rfl (by kernel_rfl) (th0 := [(0, .x 0), (1, .i .i64 (.ofNat 0)), (2, .x 33), (2000000, .x 2000008)]) (sg0 := [(40, 21)]) (fun X => thXv (v := St' ln) rfl rfl (thCons (show Is _ (.i .i64 (.ofNat 0)) (.int .i64 ((0 : Int))) from isTo (v := .int .i64 0) (isI _ _) (by first | rfl | (congr 1; omega))) (thXe (v := .int .i64 ((cntB ln 32))) (u := .int .i64 ((((spl ln).length : Int) - 1))) rfl rfl (by first | rfl | (congr 1; omega)) (thXe (v := rwS (List.replicate (Int.toNat ((cntB ln 32) + 1)) [])) (u := rwS (rwE (spl ln) (0 : Int))) rfl rfl (congrArg rwS (rwE_0 (by omega))) (thNil))))) (by kernel_rfl) (thx := [(34, .x 0), (35, .x 1), (2000009, .x 2000000)]) (thXv (v := St' (nthS (spl ln) (Int.toNat (((spl ln).length : Int) - 1)))) rfl rfl (thXe (v := .int .i64 ((((spl ln).length : Int) - 1))) (u := .int .i64 (((spl ln).length : Int) - 1)) rfl rfl (by first | rfl | (congr 1; omega)) (thXv (v := rwS (rwE (spl ln) (((spl ln).length : Int) - 1))) rfl rfl (thNil)))) (by kernel_rfl)⟩) lfNil)) rfl (get_lps2 (by omega) (by omega) fi6_at) fiB6 (.inr ⟨rfl, fun w hi => hGl (C := DParse ln) rfl rfl hi⟩) (thXv (v := St' (nthS (spl ln) 0)) rfl rfl (thXv (v := St' (nthS (spl ln) 1)) rfl rfl (thNil))) runParse_c2
        · by_cases d5 : tgK (nthS (spl ln) 0) (nthS (spl ln) 1) = 5
          · exfalso; (have hcs := spl_cnt ln); (have := spl_le ln 0); (have := spl_le ln 1); (have := spl_le ln 2); (have hvk := verK_cases (nthS (spl ln) 2)); (have htk := tgK_cases (nthS (spl ln) 0) (nthS (spl ln) 1)); (have hsk : stK ln = 5 := sK4 (by omega) (by assumption) (by assumption) (by assumption)); exact absurd x0 (by rw [hsk]; decide)
          · by_cases d6 : tgK (nthS (spl ln) 0) (nthS (spl ln) 1) = 6
            · exfalso; (have hcs := spl_cnt ln); (have := spl_le ln 0); (have := spl_le ln 1); (have := spl_le ln 2); (have hvk := verK_cases (nthS (spl ln) 2)); (have htk := tgK_cases (nthS (spl ln) 0) (nthS (spl ln) 1)); (have hsk : stK ln = 6 := sK4 (by omega) (by assumption) (by assumption) (by assumption)); exact absurd x0 (by rw [hsk]; decide)
            · exfalso; (have hcs := spl_cnt ln); (have := spl_le ln 0); (have := spl_le ln 1); (have := spl_le ln 2); (have hvk := verK_cases (nthS (spl ln) 2)); (have htk := tgK_cases (nthS (spl ln) 0) (nthS (spl ln) 1)); (have ht7 : tgK (nthS (spl ln) 0) (nthS (spl ln) 1) = 7 := by omega); (have hsk : stK ln = 7 := sK4 (by omega) (by assumption) (by assumption) (by assumption)); exact absurd x0 (by rw [hsk]; decide)
      · by_cases d4 : verK (nthS (spl ln) 2) = 3
        · exfalso; (have hcs := spl_cnt ln); (have := spl_le ln 0); (have := spl_le ln 1); (have := spl_le ln 2); (have hvk := verK_cases (nthS (spl ln) 2)); (have hsk : stK ln = 3 := sK3 (by omega) (by assumption) (by assumption) (by decide)); exact absurd x0 (by rw [hsk]; decide)
        · exfalso; (have hcs := spl_cnt ln); (have := spl_le ln 0); (have := spl_le ln 1); (have := spl_le ln 2); (have hvk := verK_cases (nthS (spl ln) 2)); (have hv4 : verK (nthS (spl ln) 2) = 4 := by omega); (have hsk : stK ln = 4 := sK3 (by omega) (by assumption) (by assumption) (by decide)); exact absurd x0 (by rw [hsk]; decide)
    · exfalso; (have hcs := spl_cnt ln); (have := spl_le ln 0); (have := spl_le ln 1); (have := spl_le ln 2); (have hsk : stK ln = 2 := sK2 (by omega) (by assumption)); exact absurd x0 (by rw [hsk]; decide)
  · exfalso; (have hcs := spl_cnt ln); (have hsk : stK ln = 1 := sK1 (by omega)); exact absurd x0 (by rw [hsk]; decide)
def nuEParse_1 (ln : LB) : List Value := [St' (nthS (spl ln) 0), St' (nthS (spl ln) 1)]
def roEParse_1 (ln : LB) : List Value := []
noncomputable def EParse_1 (ln : LB) : Cx := cx (nuX (nuEParse_1 ln) (rX (roEParse_1 ln) (fun _ => .bool true))) (nuX_one (nuL_one (l := nuEParse_1 ln) rfl)) 1 laidE laidE_stab
theorem cfParse_1 {l : LF} {h : LH} {q : Nat × AV} (ln : LB) (p0 : ln.length ≤ 1048576) (x0 : stK ln = 0) (x1 : (nthS (spl ln) 2) = lV1) (hl : l.hp = some h) (hq : l.post = [q]) (hs : cfSame l h 7 20 60 = true) {th0 : LA} {sg0 : List (Nat × Nat)} (hth0 : ThOk (cx nu one 1 laidE laidE_stab) (DParse ln) th0) (h0 : (inAs th0 (sgB 20 20 sg0) aPParse (l.pre.map (·.2)) && inHeap 20 20 th0 sg0 (lhSet h.pre .leaf) hpParse && nodupN (numsOf 20 sg0 hpParse)) = true) {thx : LA} (hthx : ThOk (EParse_1 ln) (cx nu one 1 laidE laidE_stab) thx) (hx : (inA thx (sgB 20 60 []) 8 q.2 (.tu [.ag [.x 0, .x 1, .i .i64 (.ofNat 1), .nils, .s 0 0], .ni]) && inHeap 20 60 thx [] (lhSet [] .leaf) h.post && nodupN (numsOf 20 [] h.post)) = true) : CfOk (cx nu one 1 laidE laidE_stab) 6 l := by
  have hcs := spl_cnt ln
  by_cases d1 : ((spl ln).length : Int) = 3
  · by_cases d2 : mthK (nthS (spl ln) 0) = true
    · by_cases d3 : verK (nthS (spl ln) 2) = 0
      · by_cases d4 : tgK (nthS (spl ln) 0) (nthS (spl ln) 1) = 0
        · by_cases d5 : (nthS (spl ln) 2) = lV1
          · skip
            have hcs := spl_cnt ln
            have := spl_le ln 0
            have := spl_le ln 1
            have := spl_le ln 2
            have hvk := verK_cases (nthS (spl ln) 2)
            have htk := tgK_cases (nthS (spl ln) 0) (nthS (spl ln) 1)
            have hvl : (nthS (spl ln) 2).length = 8 := by rw [(by assumption : (nthS (spl ln) 2) = lV1)]; rfl
            have hsk : stK ln = 0 := sK4 (by omega) (by assumption) (by assumption) (by assumption)
            have ho : ∀ a' r', (a', r') ∈ hyParse_c1 → HOk (DParse ln) a' r' := by
              unfold hyParse_c1
              exact hc (kExtC (n := cntB ln 32) exF52 exA52 exB52 (isX rfl) (isZ (m := 32) rfl) (denX rfl) rfl) <|
               hc (adC rfl rfl (by omega)) <|
               hc (lnV rfl rfl (by omega)) <|
               hc (adC rfl rfl (by omega)) <|
               hc (kMin (isX rfl) (isX rfl) (denX rfl) (by omega)) <|
               hc (kRz (isX rfl) (by omega) (by omega) (denX rfl)) <|
               hc (sbC rfl rfl (by omega)) <|
               hc (kElN (j := (Int.toNat (((spl ln).length : Int) - 1))) (isX rfl) (isX rfl) (denX rfl) (by omega) (by rw [rwE_len (by omega)]; omega)) <|
               hc (kRs (j := (Int.toNat (((spl ln).length : Int) - 1))) (s := (nthS (spl ln) (Int.toNat (((spl ln).length : Int) - 1)))) (isX rfl) (isX rfl) (isX rfl) (denX (v := rwS (List.set _ _ _)) (congrArg rwS (rwE_last (l := (spl ln)) (i := ((spl ln).length : Int) - 1) (by omega) (by omega)).symm)) (by omega) (by rw [rwE_len (by omega)]; omega)) <|
               hc (adC rfl rfl (by omega)) <|
               hc (kRtS (j := (Int.toNat (((spl ln).length : Int)))) (isX rfl) (isX rfl) (denX (congrArg rwS (List.take_of_length_le (l := (spl ln)) (i := (Int.toNat (((spl ln).length : Int)))) (by omega)).symm)) (by omega) (by omega)) <|
               hc (kRl (isX rfl) (denX rfl) (by first | omega | (simp <;> omega))) <|
               hc (necF rfl (by omega)) <|
               hc (kElN (j := 0) (isX rfl) (isZ (m := 0) rfl) (denX rfl) (by omega) (by omega)) <|
               hc (kElN (j := 1) (isX rfl) (isZ (m := 1) rfl) (denX rfl) (by omega) (by omega)) <|
               hc (hokMeth (s := (nthS (spl ln) 0)) (isX rfl) (by rw [mtN, if_pos (by assumption)]; exact denNn) (by omega) (by omega)) <|
               hc (kElN (j := 2) (isX rfl) (isZ (m := 2) rfl) (denX rfl) (by omega) (by omega)) <|
               hc (hokVers (s := (nthS (spl ln) 2)) (isX rfl) (by rw [(by assumption : verK (nthS (spl ln) 2) = 0)]; exact denNn) (by omega) (by omega)) <|
               hc (hokTarg (m := (nthS (spl ln) 0)) (t := (nthS (spl ln) 1)) (isRq (isX rfl) (isX rfl)) (by rw [(by assumption : tgK (nthS (spl ln) 0) (nthS (spl ln) 1) = 0)]; exact denNn) (by omega) (by omega)) <|
               hc (lnV rfl rfl (by omega)) <|
               hc (sbC rfl rfl (by omega)) <|
               hc (kIdxE (i := 7) (isX rfl) (isX rfl) (denZ (m := 49) rfl) (by omega) (by omega) (by rw [(by assumption : (nthS (spl ln) 2) = lV1)]; rfl)) <|
               hnil
            exact cfOkX (D := DParse ln) (E := EParse_1 ln) (Gf := (fun e : Nat => H0 e)) (f := 3000) (tb := tbParse_c1) rfl rfl rfl rfl rfl rfl hl hq hs rfl hth0 h0 hthx hx (AllOk.lp1 ((tabkOk _ _).hyps ho) (by omega) fi28_at fi28_body (lfCons (lpKnown rfl ⟨0, keyGs, lfOkGs_0 (l := lf13) (h := lh13) ln (by omega) (0, ln, (0 : Int)) (mkIGs ln 0 ln (0 : Int) ⟨by omega, by omega, rfl, by omega, by omega⟩) rfl (by kernel_rfl) (th0 := [(0, .x 0), (1, .i .i64 (.ofNat 0)), (2, .x 17), (2000000, .x 2000004)]) (sg0 := [(40, 21)]) (fun X => thXv (v := St' ln) rfl rfl (thCons (show Is _ (.i .i64 (.ofNat 0)) (.int .i64 ((0 : Int))) from isTo (v := .int .i64 0) (isI _ _) (by first | rfl | (congr 1; omega))) (thXe (v := .int .i64 ((cntB ln 32))) (u := .int .i64 ((((spl ln).length : Int) - 1))) rfl rfl (by first | rfl | (congr 1; omega)) (thXe (v := rwS (List.replicate (Int.toNat ((cntB ln 32) + 1)) [])) (u := rwS (rwE (spl ln) (0 : Int))) rfl rfl (congrArg rwS (rwE_0 (by omega))) (thNil))))) (by kernel_rfl) (thx := [(18, .x 0), (19, .x 1), (2000005, .x 2000000)]) (thXv (v := St' (nthS (spl ln) (Int.toNat (((spl ln).length : Int) - 1)))) rfl rfl (thXe (v := .int .i64 ((((spl ln).length : Int) - 1))) (u := .int .i64 (((spl ln).length : Int) - 1)) rfl rfl (by first | rfl | (congr 1; omega)) (thXv (v := rwS (rwE (spl ln) (((spl ln).length : Int) - 1))) rfl rfl (thNil)))) (by kernel_rfl)⟩) lfNil)) rfl (get_lps2 (by omega) (by omega) fi6_at) fiB6 (.inr ⟨rfl, fun w hi => hGl (C := DParse ln) rfl rfl hi⟩) (thXv (v := St' (nthS (spl ln) 0)) rfl rfl (thXv (v := St' (nthS (spl ln) 1)) rfl rfl (thNil))) runParse_c1
          · exfalso; (have hcs := spl_cnt ln); (have := spl_le ln 0); (have := spl_le ln 1); (have := spl_le ln 2); (have hvk := verK_cases (nthS (spl ln) 2)); (have htk := tgK_cases (nthS (spl ln) 0) (nthS (spl ln) 1)); (have hv0 : (nthS (spl ln) 2) = lV0 := vr_o (by assumption) (by assumption)); (have hvl : (nthS (spl ln) 2).length = 8 := by rw [(by assumption : (nthS (spl ln) 2) = lV0)]; rfl); (have hsk : stK ln = 0 := sK4 (by omega) (by assumption) (by assumption) (by assumption)); exact absurd x1 (by rw [(by first | assumption | exact vr_o (by assumption) (by assumption) : (nthS (spl ln) 2) = lV0)]; decide)
        · by_cases d5 : tgK (nthS (spl ln) 0) (nthS (spl ln) 1) = 5
          · exfalso; (have hcs := spl_cnt ln); (have := spl_le ln 0); (have := spl_le ln 1); (have := spl_le ln 2); (have hvk := verK_cases (nthS (spl ln) 2)); (have htk := tgK_cases (nthS (spl ln) 0) (nthS (spl ln) 1)); (have hsk : stK ln = 5 := sK4 (by omega) (by assumption) (by assumption) (by assumption)); exact absurd x0 (by rw [hsk]; decide)
          · by_cases d6 : tgK (nthS (spl ln) 0) (nthS (spl ln) 1) = 6
            · exfalso; (have hcs := spl_cnt ln); (have := spl_le ln 0); (have := spl_le ln 1); (have := spl_le ln 2); (have hvk := verK_cases (nthS (spl ln) 2)); (have htk := tgK_cases (nthS (spl ln) 0) (nthS (spl ln) 1)); (have hsk : stK ln = 6 := sK4 (by omega) (by assumption) (by assumption) (by assumption)); exact absurd x0 (by rw [hsk]; decide)
            · exfalso; (have hcs := spl_cnt ln); (have := spl_le ln 0); (have := spl_le ln 1); (have := spl_le ln 2); (have hvk := verK_cases (nthS (spl ln) 2)); (have htk := tgK_cases (nthS (spl ln) 0) (nthS (spl ln) 1)); (have ht7 : tgK (nthS (spl ln) 0) (nthS (spl ln) 1) = 7 := by omega); (have hsk : stK ln = 7 := sK4 (by omega) (by assumption) (by assumption) (by assumption)); exact absurd x0 (by rw [hsk]; decide)
      · by_cases d4 : verK (nthS (spl ln) 2) = 3
        · exfalso; (have hcs := spl_cnt ln); (have := spl_le ln 0); (have := spl_le ln 1); (have := spl_le ln 2); (have hvk := verK_cases (nthS (spl ln) 2)); (have hsk : stK ln = 3 := sK3 (by omega) (by assumption) (by assumption) (by decide)); exact absurd x0 (by rw [hsk]; decide)
        · exfalso; (have hcs := spl_cnt ln); (have := spl_le ln 0); (have := spl_le ln 1); (have := spl_le ln 2); (have hvk := verK_cases (nthS (spl ln) 2)); (have hv4 : verK (nthS (spl ln) 2) = 4 := by omega); (have hsk : stK ln = 4 := sK3 (by omega) (by assumption) (by assumption) (by decide)); exact absurd x0 (by rw [hsk]; decide)
    · exfalso; (have hcs := spl_cnt ln); (have := spl_le ln 0); (have := spl_le ln 1); (have := spl_le ln 2); (have hsk : stK ln = 2 := sK2 (by omega) (by assumption)); exact absurd x0 (by rw [hsk]; decide)
  · exfalso; (have hcs := spl_cnt ln); (have hsk : stK ln = 1 := sK1 (by omega)); exact absurd x0 (by rw [hsk]; decide)
def nuEParse_2 (ln : LB) : List Value := [.int .i64 ((cdK (stK ln))), St' (msg (stK ln))]
def roEParse_2 (ln : LB) : List Value := []
noncomputable def EParse_2 (ln : LB) : Cx := cx (nuX (nuEParse_2 ln) (rX (roEParse_2 ln) (fun _ => .bool true))) (nuX_one (nuL_one (l := nuEParse_2 ln) rfl)) 1 laidE laidE_stab
theorem cfParse_2 {l : LF} {h : LH} {q : Nat × AV} (ln : LB) (p0 : ln.length ≤ 1048576) (x0 : ¬ stK ln = 0) (hl : l.hp = some h) (hq : l.post = [q]) (hs : cfSame l h 7 20 60 = true) {th0 : LA} {sg0 : List (Nat × Nat)} (hth0 : ThOk (cx nu one 1 laidE laidE_stab) (DParse ln) th0) (h0 : (inAs th0 (sgB 20 20 sg0) aPParse (l.pre.map (·.2)) && inHeap 20 20 th0 sg0 (lhSet h.pre .leaf) hpParse && nodupN (numsOf 20 sg0 hpParse)) = true) {thx : LA} (hthx : ThOk (EParse_2 ln) (cx nu one 1 laidE laidE_stab) thx) (hx : (inA thx (sgB 20 60 []) 8 q.2 (.tu [.ag [.s 0 0, .s 0 0, .i .i64 (.ofNat 0), .nils, .s 0 0], .ifc 60 (.ag [.x 0, .x 1])]) && inHeap 20 60 thx [] (lhSet [] .leaf) h.post && nodupN (numsOf 20 [] h.post)) = true) : CfOk (cx nu one 1 laidE laidE_stab) 6 l := by
  have hcs := spl_cnt ln
  by_cases d1 : ((spl ln).length : Int) = 3
  · by_cases d2 : mthK (nthS (spl ln) 0) = true
    · by_cases d3 : verK (nthS (spl ln) 2) = 0
      · by_cases d4 : tgK (nthS (spl ln) 0) (nthS (spl ln) 1) = 0
        · by_cases d5 : (nthS (spl ln) 2) = lV1
          · exfalso; (have hcs := spl_cnt ln); (have := spl_le ln 0); (have := spl_le ln 1); (have := spl_le ln 2); (have hvk := verK_cases (nthS (spl ln) 2)); (have htk := tgK_cases (nthS (spl ln) 0) (nthS (spl ln) 1)); (have hvl : (nthS (spl ln) 2).length = 8 := by rw [(by assumption : (nthS (spl ln) 2) = lV1)]; rfl); (have hsk : stK ln = 0 := sK4 (by omega) (by assumption) (by assumption) (by assumption)); exact absurd hsk x0
          · exfalso; (have hcs := spl_cnt ln); (have := spl_le ln 0); (have := spl_le ln 1); (have := spl_le ln 2); (have hvk := verK_cases (nthS (spl ln) 2)); (have htk := tgK_cases (nthS (spl ln) 0) (nthS (spl ln) 1)); (have hv0 : (nthS (spl ln) 2) = lV0 := vr_o (by assumption) (by assumption)); (have hvl : (nthS (spl ln) 2).length = 8 := by rw [(by assumption : (nthS (spl ln) 2) = lV0)]; rfl); (have hsk : stK ln = 0 := sK4 (by omega) (by assumption) (by assumption) (by assumption)); exact absurd hsk x0
        · by_cases d5 : tgK (nthS (spl ln) 0) (nthS (spl ln) 1) = 5
          · skip
            have hcs := spl_cnt ln
            have := spl_le ln 0
            have := spl_le ln 1
            have := spl_le ln 2
            have hvk := verK_cases (nthS (spl ln) 2)
            have htk := tgK_cases (nthS (spl ln) 0) (nthS (spl ln) 1)
            have hsk : stK ln = 5 := sK4 (by omega) (by assumption) (by assumption) (by assumption)
            have ho : ∀ a' r', (a', r') ∈ hyParse_c6 → HOk (DParse ln) a' r' := by
              unfold hyParse_c6
              exact hc (kExtC (n := cntB ln 32) exF52 exA52 exB52 (isX rfl) (isZ (m := 32) rfl) (denX rfl) rfl) <|
               hc (adC rfl rfl (by omega)) <|
               hc (lnV rfl rfl (by omega)) <|
               hc (adC rfl rfl (by omega)) <|
               hc (kMin (isX rfl) (isX rfl) (denX rfl) (by omega)) <|
               hc (kRz (isX rfl) (by omega) (by omega) (denX rfl)) <|
               hc (sbC rfl rfl (by omega)) <|
               hc (kElN (j := (Int.toNat (((spl ln).length : Int) - 1))) (isX rfl) (isX rfl) (denX rfl) (by omega) (by rw [rwE_len (by omega)]; omega)) <|
               hc (kRs (j := (Int.toNat (((spl ln).length : Int) - 1))) (s := (nthS (spl ln) (Int.toNat (((spl ln).length : Int) - 1)))) (isX rfl) (isX rfl) (isX rfl) (denX (v := rwS (List.set _ _ _)) (congrArg rwS (rwE_last (l := (spl ln)) (i := ((spl ln).length : Int) - 1) (by omega) (by omega)).symm)) (by omega) (by rw [rwE_len (by omega)]; omega)) <|
               hc (adC rfl rfl (by omega)) <|
               hc (kRtS (j := (Int.toNat (((spl ln).length : Int)))) (isX rfl) (isX rfl) (denX (congrArg rwS (List.take_of_length_le (l := (spl ln)) (i := (Int.toNat (((spl ln).length : Int)))) (by omega)).symm)) (by omega) (by omega)) <|
               hc (kRl (isX rfl) (denX rfl) (by first | omega | (simp <;> omega))) <|
               hc (necF rfl (by omega)) <|
               hc (kElN (j := 0) (isX rfl) (isZ (m := 0) rfl) (denX rfl) (by omega) (by omega)) <|
               hc (kElN (j := 1) (isX rfl) (isZ (m := 1) rfl) (denX rfl) (by omega) (by omega)) <|
               hc (hokMeth (s := (nthS (spl ln) 0)) (isX rfl) (by rw [mtN, if_pos (by assumption)]; exact denNn) (by omega) (by omega)) <|
               hc (kElN (j := 2) (isX rfl) (isZ (m := 2) rfl) (denX rfl) (by omega) (by omega)) <|
               hc (hokVers (s := (nthS (spl ln) 2)) (isX rfl) (by rw [(by assumption : verK (nthS (spl ln) 2) = 0)]; exact denNn) (by omega) (by omega)) <|
               hc (hokTarg (m := (nthS (spl ln) 0)) (t := (nthS (spl ln) 1)) (isRq (isX rfl) (isX rfl)) (by rw [(by assumption : tgK (nthS (spl ln) 0) (nthS (spl ln) 1) = 5)]; exact denEk (by decide) (by decide) (by decide +kernel) (by kernel_rfl)) (by omega) (by omega)) <|
               hnil
            exact cfOkX (D := DParse ln) (E := EParse_2 ln) (Gf := (fun e : Nat => H0 e)) (f := 3000) (tb := tbParse_c6) rfl rfl rfl rfl rfl rfl hl hq hs rfl hth0 h0 hthx hx (AllOk.lp1 ((tabkOk _ _).hyps ho) (by omega) fi28_at fi28_body (lfCons (lpKnown rfl ⟨0, keyGs, lfOkGs_0 (l := lf18) (h := lh18) ln (by omega) (0, ln, (0 : Int)) (mkIGs ln 0 ln (0 : Int) ⟨by omega, by omega, rfl, by omega, by omega⟩) rfl (by kernel_rfl) (th0 := [(0, .x 0), (1, .i .i64 (.ofNat 0)), (2, .x 95), (2000000, .x 2000024)]) (sg0 := [(40, 21)]) (fun X => thXv (v := St' ln) rfl rfl (thCons (show Is _ (.i .i64 (.ofNat 0)) (.int .i64 ((0 : Int))) from isTo (v := .int .i64 0) (isI _ _) (by first | rfl | (congr 1; omega))) (thXe (v := .int .i64 ((cntB ln 32))) (u := .int .i64 ((((spl ln).length : Int) - 1))) rfl rfl (by first | rfl | (congr 1; omega)) (thXe (v := rwS (List.replicate (Int.toNat ((cntB ln 32) + 1)) [])) (u := rwS (rwE (spl ln) (0 : Int))) rfl rfl (congrArg rwS (rwE_0 (by omega))) (thNil))))) (by kernel_rfl) (thx := [(96, .x 0), (97, .x 1), (2000025, .x 2000000)]) (thXv (v := St' (nthS (spl ln) (Int.toNat (((spl ln).length : Int) - 1)))) rfl rfl (thXe (v := .int .i64 ((((spl ln).length : Int) - 1))) (u := .int .i64 (((spl ln).length : Int) - 1)) rfl rfl (by first | rfl | (congr 1; omega)) (thXv (v := rwS (rwE (spl ln) (((spl ln).length : Int) - 1))) rfl rfl (thNil)))) (by kernel_rfl)⟩) lfNil)) rfl (get_lps2 (by omega) (by omega) fi6_at) fiB6 (.inr ⟨rfl, fun w hi => hGl (C := DParse ln) rfl rfl hi⟩) (thCons (show Is _ (.i .i64 (.ofNat 10)) (.int .i64 ((cdK (stK ln)))) from isTo (v := .int .i64 10) (isI _ _) (congrArg (Value.int .i64) (by rw [hsk]; rfl))) (thCons (show Is _ (.s 40 871505283004493870769806937757998125236887781506997808754714081589081906263377667276670613332065) (St' (msg (stK ln))) from isTo (v := St' ([u8 97, u8 32, u8 116, u8 97, u8 114, u8 103, u8 101, u8 116, u8 32, u8 116, u8 104, u8 97, u8 116, u8 32, u8 100, u8 111, u8 101, u8 115, u8 110, u8 39, u8 116, u8 32, u8 98, u8 101, u8 103, u8 105, u8 110, u8 32, u8 119, u8 105, u8 116, u8 104, u8 32, u8 97, u8 32, u8 115, u8 108, u8 97, u8 115, u8 104])) (isSx (l := [u8 97, u8 32, u8 116, u8 97, u8 114, u8 103, u8 101, u8 116, u8 32, u8 116, u8 104, u8 97, u8 116, u8 32, u8 100, u8 111, u8 101, u8 115, u8 110, u8 39, u8 116, u8 32, u8 98, u8 101, u8 103, u8 105, u8 110, u8 32, u8 119, u8 105, u8 116, u8 104, u8 32, u8 97, u8 32, u8 115, u8 108, u8 97, u8 115, u8 104]) 40 871505283004493870769806937757998125236887781506997808754714081589081906263377667276670613332065 rfl) (congrArg (fun l => St' l) (by rw [hsk]; rfl))) (thNil))) runParse_c6
          · by_cases d6 : tgK (nthS (spl ln) 0) (nthS (spl ln) 1) = 6
            · skip
              have hcs := spl_cnt ln
              have := spl_le ln 0
              have := spl_le ln 1
              have := spl_le ln 2
              have hvk := verK_cases (nthS (spl ln) 2)
              have htk := tgK_cases (nthS (spl ln) 0) (nthS (spl ln) 1)
              have hsk : stK ln = 6 := sK4 (by omega) (by assumption) (by assumption) (by assumption)
              have ho : ∀ a' r', (a', r') ∈ hyParse_c7 → HOk (DParse ln) a' r' := by
                unfold hyParse_c7
                exact hc (kExtC (n := cntB ln 32) exF52 exA52 exB52 (isX rfl) (isZ (m := 32) rfl) (denX rfl) rfl) <|
                 hc (adC rfl rfl (by omega)) <|
                 hc (lnV rfl rfl (by omega)) <|
                 hc (adC rfl rfl (by omega)) <|
                 hc (kMin (isX rfl) (isX rfl) (denX rfl) (by omega)) <|
                 hc (kRz (isX rfl) (by omega) (by omega) (denX rfl)) <|
                 hc (sbC rfl rfl (by omega)) <|
                 hc (kElN (j := (Int.toNat (((spl ln).length : Int) - 1))) (isX rfl) (isX rfl) (denX rfl) (by omega) (by rw [rwE_len (by omega)]; omega)) <|
                 hc (kRs (j := (Int.toNat (((spl ln).length : Int) - 1))) (s := (nthS (spl ln) (Int.toNat (((spl ln).length : Int) - 1)))) (isX rfl) (isX rfl) (isX rfl) (denX (v := rwS (List.set _ _ _)) (congrArg rwS (rwE_last (l := (spl ln)) (i := ((spl ln).length : Int) - 1) (by omega) (by omega)).symm)) (by omega) (by rw [rwE_len (by omega)]; omega)) <|
                 hc (adC rfl rfl (by omega)) <|
                 hc (kRtS (j := (Int.toNat (((spl ln).length : Int)))) (isX rfl) (isX rfl) (denX (congrArg rwS (List.take_of_length_le (l := (spl ln)) (i := (Int.toNat (((spl ln).length : Int)))) (by omega)).symm)) (by omega) (by omega)) <|
                 hc (kRl (isX rfl) (denX rfl) (by first | omega | (simp <;> omega))) <|
                 hc (necF rfl (by omega)) <|
                 hc (kElN (j := 0) (isX rfl) (isZ (m := 0) rfl) (denX rfl) (by omega) (by omega)) <|
                 hc (kElN (j := 1) (isX rfl) (isZ (m := 1) rfl) (denX rfl) (by omega) (by omega)) <|
                 hc (hokMeth (s := (nthS (spl ln) 0)) (isX rfl) (by rw [mtN, if_pos (by assumption)]; exact denNn) (by omega) (by omega)) <|
                 hc (kElN (j := 2) (isX rfl) (isZ (m := 2) rfl) (denX rfl) (by omega) (by omega)) <|
                 hc (hokVers (s := (nthS (spl ln) 2)) (isX rfl) (by rw [(by assumption : verK (nthS (spl ln) 2) = 0)]; exact denNn) (by omega) (by omega)) <|
                 hc (hokTarg (m := (nthS (spl ln) 0)) (t := (nthS (spl ln) 1)) (isRq (isX rfl) (isX rfl)) (by rw [(by assumption : tgK (nthS (spl ln) 0) (nthS (spl ln) 1) = 6)]; exact denEk (by decide) (by decide) (by decide +kernel) (by kernel_rfl)) (by omega) (by omega)) <|
                 hnil
              exact cfOkX (D := DParse ln) (E := EParse_2 ln) (Gf := (fun e : Nat => H0 e)) (f := 3000) (tb := tbParse_c7) rfl rfl rfl rfl rfl rfl hl hq hs rfl hth0 h0 hthx hx (AllOk.lp1 ((tabkOk _ _).hyps ho) (by omega) fi28_at fi28_body (lfCons (lpKnown rfl ⟨0, keyGs, lfOkGs_0 (l := lf19) (h := lh19) ln (by omega) (0, ln, (0 : Int)) (mkIGs ln 0 ln (0 : Int) ⟨by omega, by omega, rfl, by omega, by omega⟩) rfl (by kernel_rfl) (th0 := [(0, .x 0), (1, .i .i64 (.ofNat 0)), (2, .x 109), (2000000, .x 2000028)]) (sg0 := [(40, 21)]) (fun X => thXv (v := St' ln) rfl rfl (thCons (show Is _ (.i .i64 (.ofNat 0)) (.int .i64 ((0 : Int))) from isTo (v := .int .i64 0) (isI _ _) (by first | rfl | (congr 1; omega))) (thXe (v := .int .i64 ((cntB ln 32))) (u := .int .i64 ((((spl ln).length : Int) - 1))) rfl rfl (by first | rfl | (congr 1; omega)) (thXe (v := rwS (List.replicate (Int.toNat ((cntB ln 32) + 1)) [])) (u := rwS (rwE (spl ln) (0 : Int))) rfl rfl (congrArg rwS (rwE_0 (by omega))) (thNil))))) (by kernel_rfl) (thx := [(110, .x 0), (111, .x 1), (2000029, .x 2000000)]) (thXv (v := St' (nthS (spl ln) (Int.toNat (((spl ln).length : Int) - 1)))) rfl rfl (thXe (v := .int .i64 ((((spl ln).length : Int) - 1))) (u := .int .i64 (((spl ln).length : Int) - 1)) rfl rfl (by first | rfl | (congr 1; omega)) (thXv (v := rwS (rwE (spl ln) (((spl ln).length : Int) - 1))) rfl rfl (thNil)))) (by kernel_rfl)⟩) lfNil)) rfl (get_lps2 (by omega) (by omega) fi6_at) fiB6 (.inr ⟨rfl, fun w hi => hGl (C := DParse ln) rfl rfl hi⟩) (thCons (show Is _ (.i .i64 (.ofNat 10)) (.int .i64 ((cdK (stK ln)))) from isTo (v := .int .i64 10) (isI _ _) (congrArg (Value.int .i64) (by rw [hsk]; rfl))) (thCons (show Is _ (.s 36 196954198101182485193943607980673202969989419486444167134463484752728882060117583077473) (St' (msg (stK ln))) from isTo (v := St' ([u8 97, u8 32, u8 116, u8 97, u8 114, u8 103, u8 101, u8 116, u8 32, u8 119, u8 105, u8 116, u8 104, u8 32, u8 97, u8 32, u8 98, u8 121, u8 116, u8 101, u8 32, u8 116, u8 104, u8 97, u8 116, u8 32, u8 109, u8 97, u8 121, u8 32, u8 110, u8 111, u8 116, u8 32, u8 98, u8 101])) (isSx (l := [u8 97, u8 32, u8 116, u8 97, u8 114, u8 103, u8 101, u8 116, u8 32, u8 119, u8 105, u8 116, u8 104, u8 32, u8 97, u8 32, u8 98, u8 121, u8 116, u8 101, u8 32, u8 116, u8 104, u8 97, u8 116, u8 32, u8 109, u8 97, u8 121, u8 32, u8 110, u8 111, u8 116, u8 32, u8 98, u8 101]) 36 196954198101182485193943607980673202969989419486444167134463484752728882060117583077473 rfl) (congrArg (fun l => St' l) (by rw [hsk]; rfl))) (thNil))) runParse_c7
            · skip
              have hcs := spl_cnt ln
              have := spl_le ln 0
              have := spl_le ln 1
              have := spl_le ln 2
              have hvk := verK_cases (nthS (spl ln) 2)
              have htk := tgK_cases (nthS (spl ln) 0) (nthS (spl ln) 1)
              have ht7 : tgK (nthS (spl ln) 0) (nthS (spl ln) 1) = 7 := by omega
              have hsk : stK ln = 7 := sK4 (by omega) (by assumption) (by assumption) (by assumption)
              have ho : ∀ a' r', (a', r') ∈ hyParse_c8 → HOk (DParse ln) a' r' := by
                unfold hyParse_c8
                exact hc (kExtC (n := cntB ln 32) exF52 exA52 exB52 (isX rfl) (isZ (m := 32) rfl) (denX rfl) rfl) <|
                 hc (adC rfl rfl (by omega)) <|
                 hc (lnV rfl rfl (by omega)) <|
                 hc (adC rfl rfl (by omega)) <|
                 hc (kMin (isX rfl) (isX rfl) (denX rfl) (by omega)) <|
                 hc (kRz (isX rfl) (by omega) (by omega) (denX rfl)) <|
                 hc (sbC rfl rfl (by omega)) <|
                 hc (kElN (j := (Int.toNat (((spl ln).length : Int) - 1))) (isX rfl) (isX rfl) (denX rfl) (by omega) (by rw [rwE_len (by omega)]; omega)) <|
                 hc (kRs (j := (Int.toNat (((spl ln).length : Int) - 1))) (s := (nthS (spl ln) (Int.toNat (((spl ln).length : Int) - 1)))) (isX rfl) (isX rfl) (isX rfl) (denX (v := rwS (List.set _ _ _)) (congrArg rwS (rwE_last (l := (spl ln)) (i := ((spl ln).length : Int) - 1) (by omega) (by omega)).symm)) (by omega) (by rw [rwE_len (by omega)]; omega)) <|
                 hc (adC rfl rfl (by omega)) <|
                 hc (kRtS (j := (Int.toNat (((spl ln).length : Int)))) (isX rfl) (isX rfl) (denX (congrArg rwS (List.take_of_length_le (l := (spl ln)) (i := (Int.toNat (((spl ln).length : Int)))) (by omega)).symm)) (by omega) (by omega)) <|
                 hc (kRl (isX rfl) (denX rfl) (by first | omega | (simp <;> omega))) <|
                 hc (necF rfl (by omega)) <|
                 hc (kElN (j := 0) (isX rfl) (isZ (m := 0) rfl) (denX rfl) (by omega) (by omega)) <|
                 hc (kElN (j := 1) (isX rfl) (isZ (m := 1) rfl) (denX rfl) (by omega) (by omega)) <|
                 hc (hokMeth (s := (nthS (spl ln) 0)) (isX rfl) (by rw [mtN, if_pos (by assumption)]; exact denNn) (by omega) (by omega)) <|
                 hc (kElN (j := 2) (isX rfl) (isZ (m := 2) rfl) (denX rfl) (by omega) (by omega)) <|
                 hc (hokVers (s := (nthS (spl ln) 2)) (isX rfl) (by rw [(by assumption : verK (nthS (spl ln) 2) = 0)]; exact denNn) (by omega) (by omega)) <|
                 hc (hokTarg (m := (nthS (spl ln) 0)) (t := (nthS (spl ln) 1)) (isRq (isX rfl) (isX rfl)) (by rw [(by assumption : tgK (nthS (spl ln) 0) (nthS (spl ln) 1) = 7)]; exact denEk (by decide) (by decide) (by decide +kernel) (by kernel_rfl)) (by omega) (by omega)) <|
                 hnil
              exact cfOkX (D := DParse ln) (E := EParse_2 ln) (Gf := (fun e : Nat => H0 e)) (f := 3000) (tb := tbParse_c8) rfl rfl rfl rfl rfl rfl hl hq hs rfl hth0 h0 hthx hx (AllOk.lp1 ((tabkOk _ _).hyps ho) (by omega) fi28_at fi28_body (lfCons (lpKnown rfl ⟨0, keyGs, lfOkGs_0 (l := lf20) (h := lh20) ln (by omega) (0, ln, (0 : Int)) (mkIGs ln 0 ln (0 : Int) ⟨by omega, by omega, rfl, by omega, by omega⟩) rfl (by kernel_rfl) (th0 := [(0, .x 0), (1, .i .i64 (.ofNat 0)), (2, .x 123), (2000000, .x 2000032)]) (sg0 := [(40, 21)]) (fun X => thXv (v := St' ln) rfl rfl (thCons (show Is _ (.i .i64 (.ofNat 0)) (.int .i64 ((0 : Int))) from isTo (v := .int .i64 0) (isI _ _) (by first | rfl | (congr 1; omega))) (thXe (v := .int .i64 ((cntB ln 32))) (u := .int .i64 ((((spl ln).length : Int) - 1))) rfl rfl (by first | rfl | (congr 1; omega)) (thXe (v := rwS (List.replicate (Int.toNat ((cntB ln 32) + 1)) [])) (u := rwS (rwE (spl ln) (0 : Int))) rfl rfl (congrArg rwS (rwE_0 (by omega))) (thNil))))) (by kernel_rfl) (thx := [(124, .x 0), (125, .x 1), (2000033, .x 2000000)]) (thXv (v := St' (nthS (spl ln) (Int.toNat (((spl ln).length : Int) - 1)))) rfl rfl (thXe (v := .int .i64 ((((spl ln).length : Int) - 1))) (u := .int .i64 (((spl ln).length : Int) - 1)) rfl rfl (by first | rfl | (congr 1; omega)) (thXv (v := rwS (rwE (spl ln) (((spl ln).length : Int) - 1))) rfl rfl (thNil)))) (by kernel_rfl)⟩) lfNil)) rfl (get_lps2 (by omega) (by omega) fi6_at) fiB6 (.inr ⟨rfl, fun w hi => hGl (C := DParse ln) rfl rfl hi⟩) (thCons (show Is _ (.i .i64 (.ofNat 12)) (.int .i64 ((cdK (stK ln)))) from isTo (v := .int .i64 12) (isI _ _) (congrArg (Value.int .i64) (by rw [hsk]; rfl))) (thCons (show Is _ (.s 25 649249343039568344963490732249631573126175255935168103587937) (St' (msg (stK ln))) from isTo (v := St' ([u8 97, u8 32, u8 116, u8 97, u8 114, u8 103, u8 101, u8 116, u8 32, u8 116, u8 104, u8 97, u8 116, u8 32, u8 105, u8 115, u8 32, u8 116, u8 111, u8 111, u8 32, u8 108, u8 111, u8 110, u8 103])) (isSx (l := [u8 97, u8 32, u8 116, u8 97, u8 114, u8 103, u8 101, u8 116, u8 32, u8 116, u8 104, u8 97, u8 116, u8 32, u8 105, u8 115, u8 32, u8 116, u8 111, u8 111, u8 32, u8 108, u8 111, u8 110, u8 103]) 25 649249343039568344963490732249631573126175255935168103587937 rfl) (congrArg (fun l => St' l) (by rw [hsk]; rfl))) (thNil))) runParse_c8
      · by_cases d4 : verK (nthS (spl ln) 2) = 3
        · skip
          have hcs := spl_cnt ln
          have := spl_le ln 0
          have := spl_le ln 1
          have := spl_le ln 2
          have hvk := verK_cases (nthS (spl ln) 2)
          have hsk : stK ln = 3 := sK3 (by omega) (by assumption) (by assumption) (by decide)
          have ho : ∀ a' r', (a', r') ∈ hyParse_c4 → HOk (DParse ln) a' r' := by
            unfold hyParse_c4
            exact hc (kExtC (n := cntB ln 32) exF52 exA52 exB52 (isX rfl) (isZ (m := 32) rfl) (denX rfl) rfl) <|
             hc (adC rfl rfl (by omega)) <|
             hc (lnV rfl rfl (by omega)) <|
             hc (adC rfl rfl (by omega)) <|
             hc (kMin (isX rfl) (isX rfl) (denX rfl) (by omega)) <|
             hc (kRz (isX rfl) (by omega) (by omega) (denX rfl)) <|
             hc (sbC rfl rfl (by omega)) <|
             hc (kElN (j := (Int.toNat (((spl ln).length : Int) - 1))) (isX rfl) (isX rfl) (denX rfl) (by omega) (by rw [rwE_len (by omega)]; omega)) <|
             hc (kRs (j := (Int.toNat (((spl ln).length : Int) - 1))) (s := (nthS (spl ln) (Int.toNat (((spl ln).length : Int) - 1)))) (isX rfl) (isX rfl) (isX rfl) (denX (v := rwS (List.set _ _ _)) (congrArg rwS (rwE_last (l := (spl ln)) (i := ((spl ln).length : Int) - 1) (by omega) (by omega)).symm)) (by omega) (by rw [rwE_len (by omega)]; omega)) <|
             hc (adC rfl rfl (by omega)) <|
             hc (kRtS (j := (Int.toNat (((spl ln).length : Int)))) (isX rfl) (isX rfl) (denX (congrArg rwS (List.take_of_length_le (l := (spl ln)) (i := (Int.toNat (((spl ln).length : Int)))) (by omega)).symm)) (by omega) (by omega)) <|
             hc (kRl (isX rfl) (denX rfl) (by first | omega | (simp <;> omega))) <|
             hc (necF rfl (by omega)) <|
             hc (kElN (j := 0) (isX rfl) (isZ (m := 0) rfl) (denX rfl) (by omega) (by omega)) <|
             hc (kElN (j := 1) (isX rfl) (isZ (m := 1) rfl) (denX rfl) (by omega) (by omega)) <|
             hc (hokMeth (s := (nthS (spl ln) 0)) (isX rfl) (by rw [mtN, if_pos (by assumption)]; exact denNn) (by omega) (by omega)) <|
             hc (kElN (j := 2) (isX rfl) (isZ (m := 2) rfl) (denX rfl) (by omega) (by omega)) <|
             hc (hokVers (s := (nthS (spl ln) 2)) (isX rfl) (by rw [(by assumption : verK (nthS (spl ln) 2) = 3)]; exact denEk (by decide) (by decide) (by decide +kernel) (by kernel_rfl)) (by omega) (by omega)) <|
             hc (hokTarg (m := (nthS (spl ln) 0)) (t := (nthS (spl ln) 1)) (isRq (isX rfl) (isX rfl)) (denX rfl) (by omega) (by omega)) <|
             hnil
          exact cfOkX (D := DParse ln) (E := EParse_2 ln) (Gf := (fun e : Nat => H0 e)) (f := 3000) (tb := tbParse_c4) rfl rfl rfl rfl rfl rfl hl hq hs rfl hth0 h0 hthx hx (AllOk.lp1 ((tabkOk _ _).hyps ho) (by omega) fi28_at fi28_body (lfCons (lpKnown rfl ⟨0, keyGs, lfOkGs_0 (l := lf16) (h := lh16) ln (by omega) (0, ln, (0 : Int)) (mkIGs ln 0 ln (0 : Int) ⟨by omega, by omega, rfl, by omega, by omega⟩) rfl (by kernel_rfl) (th0 := [(0, .x 0), (1, .i .i64 (.ofNat 0)), (2, .x 65), (2000000, .x 2000016)]) (sg0 := [(40, 21)]) (fun X => thXv (v := St' ln) rfl rfl (thCons (show Is _ (.i .i64 (.ofNat 0)) (.int .i64 ((0 : Int))) from isTo (v := .int .i64 0) (isI _ _) (by first | rfl | (congr 1; omega))) (thXe (v := .int .i64 ((cntB ln 32))) (u := .int .i64 ((((spl ln).length : Int) - 1))) rfl rfl (by first | rfl | (congr 1; omega)) (thXe (v := rwS (List.replicate (Int.toNat ((cntB ln 32) + 1)) [])) (u := rwS (rwE (spl ln) (0 : Int))) rfl rfl (congrArg rwS (rwE_0 (by omega))) (thNil))))) (by kernel_rfl) (thx := [(66, .x 0), (67, .x 1), (2000017, .x 2000000)]) (thXv (v := St' (nthS (spl ln) (Int.toNat (((spl ln).length : Int) - 1)))) rfl rfl (thXe (v := .int .i64 ((((spl ln).length : Int) - 1))) (u := .int .i64 (((spl ln).length : Int) - 1)) rfl rfl (by first | rfl | (congr 1; omega)) (thXv (v := rwS (rwE (spl ln) (((spl ln).length : Int) - 1))) rfl rfl (thNil)))) (by kernel_rfl)⟩) lfNil)) rfl (get_lps2 (by omega) (by omega) fi6_at) fiB6 (.inr ⟨rfl, fun w hi => hGl (C := DParse ln) rfl rfl hi⟩) (thCons (show Is _ (.i .i64 (.ofNat 13)) (.int .i64 ((cdK (stK ln)))) from isTo (v := .int .i64 13) (isI _ _) (congrArg (Value.int .i64) (by rw [hsk]; rfl))) (thCons (show Is _ (.s 23 7694029013446026437275817960271408410624107796103130721) (St' (msg (stK ln))) from isTo (v := St' ([u8 97, u8 110, u8 111, u8 116, u8 104, u8 101, u8 114, u8 32, u8 118, u8 101, u8 114, u8 115, u8 105, u8 111, u8 110, u8 32, u8 111, u8 102, u8 32, u8 72, u8 84, u8 84, u8 80])) (isSx (l := [u8 97, u8 110, u8 111, u8 116, u8 104, u8 101, u8 114, u8 32, u8 118, u8 101, u8 114, u8 115, u8 105, u8 111, u8 110, u8 32, u8 111, u8 102, u8 32, u8 72, u8 84, u8 84, u8 80]) 23 7694029013446026437275817960271408410624107796103130721 rfl) (congrArg (fun l => St' l) (by rw [hsk]; rfl))) (thNil))) runParse_c4
        · skip
          have hcs := spl_cnt ln
          have := spl_le ln 0
          have := spl_le ln 1
          have := spl_le ln 2
          have hvk := verK_cases (nthS (spl ln) 2)
          have hv4 : verK (nthS (spl ln) 2) = 4 := by omega
          have hsk : stK ln = 4 := sK3 (by omega) (by assumption) (by assumption) (by decide)
          have ho : ∀ a' r', (a', r') ∈ hyParse_c5 → HOk (DParse ln) a' r' := by
            unfold hyParse_c5
            exact hc (kExtC (n := cntB ln 32) exF52 exA52 exB52 (isX rfl) (isZ (m := 32) rfl) (denX rfl) rfl) <|
             hc (adC rfl rfl (by omega)) <|
             hc (lnV rfl rfl (by omega)) <|
             hc (adC rfl rfl (by omega)) <|
             hc (kMin (isX rfl) (isX rfl) (denX rfl) (by omega)) <|
             hc (kRz (isX rfl) (by omega) (by omega) (denX rfl)) <|
             hc (sbC rfl rfl (by omega)) <|
             hc (kElN (j := (Int.toNat (((spl ln).length : Int) - 1))) (isX rfl) (isX rfl) (denX rfl) (by omega) (by rw [rwE_len (by omega)]; omega)) <|
             hc (kRs (j := (Int.toNat (((spl ln).length : Int) - 1))) (s := (nthS (spl ln) (Int.toNat (((spl ln).length : Int) - 1)))) (isX rfl) (isX rfl) (isX rfl) (denX (v := rwS (List.set _ _ _)) (congrArg rwS (rwE_last (l := (spl ln)) (i := ((spl ln).length : Int) - 1) (by omega) (by omega)).symm)) (by omega) (by rw [rwE_len (by omega)]; omega)) <|
             hc (adC rfl rfl (by omega)) <|
             hc (kRtS (j := (Int.toNat (((spl ln).length : Int)))) (isX rfl) (isX rfl) (denX (congrArg rwS (List.take_of_length_le (l := (spl ln)) (i := (Int.toNat (((spl ln).length : Int)))) (by omega)).symm)) (by omega) (by omega)) <|
             hc (kRl (isX rfl) (denX rfl) (by first | omega | (simp <;> omega))) <|
             hc (necF rfl (by omega)) <|
             hc (kElN (j := 0) (isX rfl) (isZ (m := 0) rfl) (denX rfl) (by omega) (by omega)) <|
             hc (kElN (j := 1) (isX rfl) (isZ (m := 1) rfl) (denX rfl) (by omega) (by omega)) <|
             hc (hokMeth (s := (nthS (spl ln) 0)) (isX rfl) (by rw [mtN, if_pos (by assumption)]; exact denNn) (by omega) (by omega)) <|
             hc (kElN (j := 2) (isX rfl) (isZ (m := 2) rfl) (denX rfl) (by omega) (by omega)) <|
             hc (hokVers (s := (nthS (spl ln) 2)) (isX rfl) (by rw [(by assumption : verK (nthS (spl ln) 2) = 4)]; exact denEk (by decide) (by decide) (by decide +kernel) (by kernel_rfl)) (by omega) (by omega)) <|
             hc (hokTarg (m := (nthS (spl ln) 0)) (t := (nthS (spl ln) 1)) (isRq (isX rfl) (isX rfl)) (denX rfl) (by omega) (by omega)) <|
             hnil
          exact cfOkX (D := DParse ln) (E := EParse_2 ln) (Gf := (fun e : Nat => H0 e)) (f := 3000) (tb := tbParse_c5) rfl rfl rfl rfl rfl rfl hl hq hs rfl hth0 h0 hthx hx (AllOk.lp1 ((tabkOk _ _).hyps ho) (by omega) fi28_at fi28_body (lfCons (lpKnown rfl ⟨0, keyGs, lfOkGs_0 (l := lf17) (h := lh17) ln (by omega) (0, ln, (0 : Int)) (mkIGs ln 0 ln (0 : Int) ⟨by omega, by omega, rfl, by omega, by omega⟩) rfl (by kernel_rfl) (th0 := [(0, .x 0), (1, .i .i64 (.ofNat 0)), (2, .x 80), (2000000, .x 2000020)]) (sg0 := [(40, 21)]) (fun X => thXv (v := St' ln) rfl rfl (thCons (show Is _ (.i .i64 (.ofNat 0)) (.int .i64 ((0 : Int))) from isTo (v := .int .i64 0) (isI _ _) (by first | rfl | (congr 1; omega))) (thXe (v := .int .i64 ((cntB ln 32))) (u := .int .i64 ((((spl ln).length : Int) - 1))) rfl rfl (by first | rfl | (congr 1; omega)) (thXe (v := rwS (List.replicate (Int.toNat ((cntB ln 32) + 1)) [])) (u := rwS (rwE (spl ln) (0 : Int))) rfl rfl (congrArg rwS (rwE_0 (by omega))) (thNil))))) (by kernel_rfl) (thx := [(81, .x 0), (82, .x 1), (2000021, .x 2000000)]) (thXv (v := St' (nthS (spl ln) (Int.toNat (((spl ln).length : Int) - 1)))) rfl rfl (thXe (v := .int .i64 ((((spl ln).length : Int) - 1))) (u := .int .i64 (((spl ln).length : Int) - 1)) rfl rfl (by first | rfl | (congr 1; omega)) (thXv (v := rwS (rwE (spl ln) (((spl ln).length : Int) - 1))) rfl rfl (thNil)))) (by kernel_rfl)⟩) lfNil)) rfl (get_lps2 (by omega) (by omega) fi6_at) fiB6 (.inr ⟨rfl, fun w hi => hGl (C := DParse ln) rfl rfl hi⟩) (thCons (show Is _ (.i .i64 (.ofNat 10)) (.int .i64 ((cdK (stK ln)))) from isTo (v := .int .i64 10) (isI _ _) (congrArg (Value.int .i64) (by rw [hsk]; rfl))) (thCons (show Is _ (.s 22 37949987668818623818098385492098889134682443695399009) (St' (msg (stK ln))) from isTo (v := St' ([u8 97, u8 32, u8 118, u8 101, u8 114, u8 115, u8 105, u8 111, u8 110, u8 32, u8 116, u8 104, u8 97, u8 116, u8 32, u8 105, u8 115, u8 32, u8 110, u8 111, u8 110, u8 101])) (isSx (l := [u8 97, u8 32, u8 118, u8 101, u8 114, u8 115, u8 105, u8 111, u8 110, u8 32, u8 116, u8 104, u8 97, u8 116, u8 32, u8 105, u8 115, u8 32, u8 110, u8 111, u8 110, u8 101]) 22 37949987668818623818098385492098889134682443695399009 rfl) (congrArg (fun l => St' l) (by rw [hsk]; rfl))) (thNil))) runParse_c5
    · skip
      have hcs := spl_cnt ln
      have := spl_le ln 0
      have := spl_le ln 1
      have := spl_le ln 2
      have hsk : stK ln = 2 := sK2 (by omega) (by assumption)
      have ho : ∀ a' r', (a', r') ∈ hyParse_c3 → HOk (DParse ln) a' r' := by
        unfold hyParse_c3
        exact hc (kExtC (n := cntB ln 32) exF52 exA52 exB52 (isX rfl) (isZ (m := 32) rfl) (denX rfl) rfl) <|
         hc (adC rfl rfl (by omega)) <|
         hc (lnV rfl rfl (by omega)) <|
         hc (adC rfl rfl (by omega)) <|
         hc (kMin (isX rfl) (isX rfl) (denX rfl) (by omega)) <|
         hc (kRz (isX rfl) (by omega) (by omega) (denX rfl)) <|
         hc (sbC rfl rfl (by omega)) <|
         hc (kElN (j := (Int.toNat (((spl ln).length : Int) - 1))) (isX rfl) (isX rfl) (denX rfl) (by omega) (by rw [rwE_len (by omega)]; omega)) <|
         hc (kRs (j := (Int.toNat (((spl ln).length : Int) - 1))) (s := (nthS (spl ln) (Int.toNat (((spl ln).length : Int) - 1)))) (isX rfl) (isX rfl) (isX rfl) (denX (v := rwS (List.set _ _ _)) (congrArg rwS (rwE_last (l := (spl ln)) (i := ((spl ln).length : Int) - 1) (by omega) (by omega)).symm)) (by omega) (by rw [rwE_len (by omega)]; omega)) <|
         hc (adC rfl rfl (by omega)) <|
         hc (kRtS (j := (Int.toNat (((spl ln).length : Int)))) (isX rfl) (isX rfl) (denX (congrArg rwS (List.take_of_length_le (l := (spl ln)) (i := (Int.toNat (((spl ln).length : Int)))) (by omega)).symm)) (by omega) (by omega)) <|
         hc (kRl (isX rfl) (denX rfl) (by first | omega | (simp <;> omega))) <|
         hc (necF rfl (by omega)) <|
         hc (kElN (j := 0) (isX rfl) (isZ (m := 0) rfl) (denX rfl) (by omega) (by omega)) <|
         hc (kElN (j := 1) (isX rfl) (isZ (m := 1) rfl) (denX rfl) (by omega) (by omega)) <|
         hc (hokMeth (s := (nthS (spl ln) 0)) (isX rfl) (by rw [mtN, if_neg (by assumption)]; exact denEk (by decide) (by decide) (by decide +kernel) (by kernel_rfl)) (by omega) (by omega)) <|
         hc (kElN (j := 2) (isX rfl) (isZ (m := 2) rfl) (denX rfl) (by omega) (by omega)) <|
         hc (hokVers (s := (nthS (spl ln) 2)) (isX rfl) (denX rfl) (by omega) (by omega)) <|
         hc (hokTarg (m := (nthS (spl ln) 0)) (t := (nthS (spl ln) 1)) (isRq (isX rfl) (isX rfl)) (denX rfl) (by omega) (by omega)) <|
         hnil
      exact cfOkX (D := DParse ln) (E := EParse_2 ln) (Gf := (fun e : Nat => H0 e)) (f := 3000) (tb := tbParse_c3) rfl rfl rfl rfl rfl rfl hl hq hs rfl hth0 h0 hthx hx (AllOk.lp1 ((tabkOk _ _).hyps ho) (by omega) fi28_at fi28_body (lfCons (lpKnown rfl ⟨0, keyGs, lfOkGs_0 (l := lf15) (h := lh15) ln (by omega) (0, ln, (0 : Int)) (mkIGs ln 0 ln (0 : Int) ⟨by omega, by omega, rfl, by omega, by omega⟩) rfl (by kernel_rfl) (th0 := [(0, .x 0), (1, .i .i64 (.ofNat 0)), (2, .x 49), (2000000, .x 2000012)]) (sg0 := [(40, 21)]) (fun X => thXv (v := St' ln) rfl rfl (thCons (show Is _ (.i .i64 (.ofNat 0)) (.int .i64 ((0 : Int))) from isTo (v := .int .i64 0) (isI _ _) (by first | rfl | (congr 1; omega))) (thXe (v := .int .i64 ((cntB ln 32))) (u := .int .i64 ((((spl ln).length : Int) - 1))) rfl rfl (by first | rfl | (congr 1; omega)) (thXe (v := rwS (List.replicate (Int.toNat ((cntB ln 32) + 1)) [])) (u := rwS (rwE (spl ln) (0 : Int))) rfl rfl (congrArg rwS (rwE_0 (by omega))) (thNil))))) (by kernel_rfl) (thx := [(50, .x 0), (51, .x 1), (2000013, .x 2000000)]) (thXv (v := St' (nthS (spl ln) (Int.toNat (((spl ln).length : Int) - 1)))) rfl rfl (thXe (v := .int .i64 ((((spl ln).length : Int) - 1))) (u := .int .i64 (((spl ln).length : Int) - 1)) rfl rfl (by first | rfl | (congr 1; omega)) (thXv (v := rwS (rwE (spl ln) (((spl ln).length : Int) - 1))) rfl rfl (thNil)))) (by kernel_rfl)⟩) lfNil)) rfl (get_lps2 (by omega) (by omega) fi6_at) fiB6 (.inr ⟨rfl, fun w hi => hGl (C := DParse ln) rfl rfl hi⟩) (thCons (show Is _ (.i .i64 (.ofNat 10)) (.int .i64 ((cdK (stK ln)))) from isTo (v := .int .i64 10) (isI _ _) (congrArg (Value.int .i64) (by rw [hsk]; rfl))) (thCons (show Is _ (.s 21 148242139331322749289446818328510565105317482143841) (St' (msg (stK ln))) from isTo (v := St' ([u8 97, u8 32, u8 109, u8 101, u8 116, u8 104, u8 111, u8 100, u8 32, u8 116, u8 104, u8 97, u8 116, u8 32, u8 105, u8 115, u8 32, u8 110, u8 111, u8 110, u8 101])) (isSx (l := [u8 97, u8 32, u8 109, u8 101, u8 116, u8 104, u8 111, u8 100, u8 32, u8 116, u8 104, u8 97, u8 116, u8 32, u8 105, u8 115, u8 32, u8 110, u8 111, u8 110, u8 101]) 21 148242139331322749289446818328510565105317482143841 rfl) (congrArg (fun l => St' l) (by rw [hsk]; rfl))) (thNil))) runParse_c3
  · skip
    have hcs := spl_cnt ln
    have hsk : stK ln = 1 := sK1 (by omega)
    have ho : ∀ a' r', (a', r') ∈ hyParse_c0 → HOk (DParse ln) a' r' := by
      unfold hyParse_c0
      exact hc (kExtC (n := cntB ln 32) exF52 exA52 exB52 (isX rfl) (isZ (m := 32) rfl) (denX rfl) rfl) <|
       hc (adC rfl rfl (by omega)) <|
       hc (lnV rfl rfl (by omega)) <|
       hc (adC rfl rfl (by omega)) <|
       hc (kMin (isX rfl) (isX rfl) (denX rfl) (by omega)) <|
       hc (kRz (isX rfl) (by omega) (by omega) (denX rfl)) <|
       hc (sbC rfl rfl (by omega)) <|
       hc (kElN (j := (Int.toNat (((spl ln).length : Int) - 1))) (isX rfl) (isX rfl) (denX rfl) (by omega) (by rw [rwE_len (by omega)]; omega)) <|
       hc (kRs (j := (Int.toNat (((spl ln).length : Int) - 1))) (s := (nthS (spl ln) (Int.toNat (((spl ln).length : Int) - 1)))) (isX rfl) (isX rfl) (isX rfl) (denX (v := rwS (List.set _ _ _)) (congrArg rwS (rwE_last (l := (spl ln)) (i := ((spl ln).length : Int) - 1) (by omega) (by omega)).symm)) (by omega) (by rw [rwE_len (by omega)]; omega)) <|
       hc (adC rfl rfl (by omega)) <|
       hc (kRtS (j := (Int.toNat (((spl ln).length : Int)))) (isX rfl) (isX rfl) (denX (congrArg rwS (List.take_of_length_le (l := (spl ln)) (i := (Int.toNat (((spl ln).length : Int)))) (by omega)).symm)) (by omega) (by omega)) <|
       hc (kRl (isX rfl) (denX rfl) (by first | omega | (simp <;> omega))) <|
       hc (necT rfl (by omega)) <|
       hnil
    exact cfOkX (D := DParse ln) (E := EParse_2 ln) (Gf := (fun e : Nat => H0 e)) (f := 3000) (tb := tbParse_c0) rfl rfl rfl rfl rfl rfl hl hq hs rfl hth0 h0 hthx hx (AllOk.lp1 ((tabkOk _ _).hyps ho) (by omega) fi28_at fi28_body (lfCons (lpKnown rfl ⟨0, keyGs, lfOkGs_0 (l := lf12) (h := lh12) ln (by omega) (0, ln, (0 : Int)) (mkIGs ln 0 ln (0 : Int) ⟨by omega, by omega, rfl, by omega, by omega⟩) rfl (by kernel_rfl) (th0 := [(0, .x 0), (1, .i .i64 (.ofNat 0)), (2, .x 6), (2000000, .x 2000000)]) (sg0 := [(40, 21)]) (fun X => thXv (v := St' ln) rfl rfl (thCons (show Is _ (.i .i64 (.ofNat 0)) (.int .i64 ((0 : Int))) from isTo (v := .int .i64 0) (isI _ _) (by first | rfl | (congr 1; omega))) (thXe (v := .int .i64 ((cntB ln 32))) (u := .int .i64 ((((spl ln).length : Int) - 1))) rfl rfl (by first | rfl | (congr 1; omega)) (thXe (v := rwS (List.replicate (Int.toNat ((cntB ln 32) + 1)) [])) (u := rwS (rwE (spl ln) (0 : Int))) rfl rfl (congrArg rwS (rwE_0 (by omega))) (thNil))))) (by kernel_rfl) (thx := [(7, .x 0), (8, .x 1), (2000001, .x 2000000)]) (thXv (v := St' (nthS (spl ln) (Int.toNat (((spl ln).length : Int) - 1)))) rfl rfl (thXe (v := .int .i64 ((((spl ln).length : Int) - 1))) (u := .int .i64 (((spl ln).length : Int) - 1)) rfl rfl (by first | rfl | (congr 1; omega)) (thXv (v := rwS (rwE (spl ln) (((spl ln).length : Int) - 1))) rfl rfl (thNil)))) (by kernel_rfl)⟩) lfNil)) rfl (get_lps2 (by omega) (by omega) fi6_at) fiB6 (.inr ⟨rfl, fun w hi => hGl (C := DParse ln) rfl rfl hi⟩) (thCons (show Is _ (.i .i64 (.ofNat 10)) (.int .i64 ((cdK (stK ln)))) from isTo (v := .int .i64 10) (isI _ _) (congrArg (Value.int .i64) (by rw [hsk]; rfl))) (thCons (show Is _ (.s 38 14699107778994494665870517996486432588710648038438484142077422101238628065412497674488389729) (St' (msg (stK ln))) from isTo (v := St' ([u8 97, u8 32, u8 114, u8 101, u8 113, u8 117, u8 101, u8 115, u8 116, u8 32, u8 108, u8 105, u8 110, u8 101, u8 32, u8 116, u8 104, u8 97, u8 116, u8 32, u8 104, u8 97, u8 115, u8 110, u8 39, u8 116, u8 32, u8 116, u8 104, u8 114, u8 101, u8 101, u8 32, u8 112, u8 97, u8 114, u8 116, u8 115])) (isSx (l := [u8 97, u8 32, u8 114, u8 101, u8 113, u8 117, u8 101, u8 115, u8 116, u8 32, u8 108, u8 105, u8 110, u8 101, u8 32, u8 116, u8 104, u8 97, u8 116, u8 32, u8 104, u8 97, u8 115, u8 110, u8 39, u8 116, u8 32, u8 116, u8 104, u8 114, u8 101, u8 101, u8 32, u8 112, u8 97, u8 114, u8 116, u8 115]) 38 14699107778994494665870517996486432588710648038438484142077422101238628065412497674488389729 rfl) (congrArg (fun l => St' l) (by rw [hsk]; rfl))) (thNil))) runParse_c0
end Go.Proofs.YtalblkipoopdgaaDoor.startBack
