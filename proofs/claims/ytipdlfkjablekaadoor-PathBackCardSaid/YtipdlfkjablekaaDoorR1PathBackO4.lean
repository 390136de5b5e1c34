/- A part of the proof: an interpreter of the model's own code on partly known states, and that what it answers is what the program answers. No condition of its own. -/
import Derived.Test.YtipdlfkjablekaaDoorR1PathBackO3
set_option maxRecDepth 100000
set_option linter.unusedVariables false
set_option linter.unusedSimpArgs false
set_option maxHeartbeats 4000000
namespace Go.Proofs.YtipdlfkjablekaaDoor.pathBack
open Go Go.AX Go.Proofs Go.Proofs.YtipdlfkjablekaaDoor
variable {nu : Nat → Value} {one : ∀ i, i < 1000000 → (nu i).oneCell' = true} {E' : Cx} {x' : Ex} {e' : LA} {h' : LE}
noncomputable def bodyCl : Code := loopNo (Tryd.f29.body.getD .skip) 1
theorem keyCl : oneKey (loopsOf (Tryd.f29.body.getD .skip)) 5 1 0 = true := by kernel_rfl
def keepCl : List Nat := []
def epCl_0 : LA := [(0, .yl 10), (1, .p 8 0), (2, .p 7 0), (3, .p 9 0), (9, .s 1 47)]
def hpCl_0 : LE := [(3, .b ⟨9, .l [.s 0 0], 0, 0, 0, false, false⟩), (4, .b ⟨24, .l [.ni], 0, 0, 0, false, false⟩), (5, .b ⟨28, .l [.nils], 0, 0, 0, false, false⟩), (6, .b ⟨9, .l [.und], 0, 0, 0, false, false⟩), (7, .b ⟨9, .l [.x 0], 0, 0, 0, false, false⟩), (8, .b ⟨9, .l [.s 1 47], 0, 0, 0, false, false⟩), (9, .b ⟨3, .l [.i .i64 (.ofNat 0)], 0, 0, 0, false, false⟩), (10, .k 5 [(2, .p 3 0), (3, .p 4 0), (4, .p 5 0), (5, .p 6 0)] 64 0 .normal)]
def nuCl_0 (Q : Option (LL × LB)) (M : LB) (To : List LB) (Tr : LB) (B : Bool) (r : LB) (o : List LB) : List Value := [St' r, St' ([] : LB), .int .i64 (idxB r 47), .int .i64 ((idxB r 47)), St' (List.take (Int.toNat ((idxB r 47))) r), St' ((dcS (List.take (Int.toNat ((idxB r 47))) r)).getD []), .int .i64 ((idxB r 47) + 1), St' (List.drop (Int.toNat ((idxB r 47) + 1)) r), St' ([] : LB), .int .i64 (idxB r 47), .int .i64 ((idxB r 47)), St' (List.take (Int.toNat ((idxB r 47))) r), St' ((dcS (List.take (Int.toNat ((idxB r 47))) r)).getD []), .int .i64 ((idxB r 47) + 1), St' (List.drop (Int.toNat ((idxB r 47) + 1)) r), St' ([] : LB), .int .i64 (idxB r 47), .int .i64 ((idxB r 47)), St' (List.take (Int.toNat ((idxB r 47))) r), St' ((dcS (List.take (Int.toNat ((idxB r 47))) r)).getD []), St' ([] : LB), .int .i64 (idxB r 47), .int .i64 ((idxB r 47)), St' (List.take (Int.toNat ((idxB r 47))) r), St' ((dcS (List.take (Int.toNat ((idxB r 47))) r)).getD []), .int .i64 ((idxB r 47) + 1), St' (List.drop (Int.toNat ((idxB r 47) + 1)) r), St' ([] : LB), .int .i64 (idxB r 47), .int .i64 ((idxB r 47)), St' (List.take (Int.toNat ((idxB r 47))) r), St' (dcM (List.take (Int.toNat ((idxB r 47))) r)), St' ([] : LB), .int .i64 (idxB r 47), St' ([] : LB), St' (List.take (Int.toNat (0)) r), St' ((dcS (List.take (Int.toNat (0)) r)).getD []), St' (List.drop (Int.toNat (1)) r)]
def roCl_0 (Q : Option (LL × LB)) (M : LB) (To : List LB) (Tr : LB) (B : Bool) (r : LB) (o : List LB) : List Value := [rwS ([] : List LB), rwS (([] : List LB) ++ [((dcS (List.take (Int.toNat ((idxB r 47))) r)).getD [])]), rwS ([] : List LB), rwS ([] : List LB), rwS ([] : List LB), rwS ([] : List LB), rwS ([] : List LB), rwS ([] : List LB)]
def epCl_1 : LA := [(0, .yl 10), (1, .p 8 0), (2, .p 7 0), (3, .p 9 0), (9, .s 1 47)]
def hpCl_1 : LE := [(3, .b ⟨9, .l [.s 0 0], 0, 0, 0, false, false⟩), (4, .b ⟨24, .l [.ni], 0, 0, 0, false, false⟩), (5, .b ⟨28, .l [.sr 11], 0, 0, 0, false, false⟩), (6, .b ⟨9, .l [.und], 0, 0, 0, false, false⟩), (7, .b ⟨9, .l [.x 0], 0, 0, 0, false, false⟩), (8, .b ⟨9, .l [.s 1 47], 0, 0, 0, false, false⟩), (9, .b ⟨3, .l [.i .i64 (.ofNat 0)], 0, 0, 0, false, false⟩), (10, .k 5 [(2, .p 3 0), (3, .p 4 0), (4, .p 5 0), (5, .p 6 0)] 64 0 .normal), (11, .r 2000000 9 1 false)]
def nuCl_1 (Q : Option (LL × LB)) (M : LB) (To : List LB) (Tr : LB) (B : Bool) (r : LB) (o : List LB) : List Value := [St' r, St' ([] : LB), .int .i64 (idxB r 47), .int .i64 ((idxB r 47)), St' (List.take (Int.toNat ((idxB r 47))) r), St' ((dcS (List.take (Int.toNat ((idxB r 47))) r)).getD []), .int .i64 ((idxB r 47) + 1), St' (List.drop (Int.toNat ((idxB r 47) + 1)) r), St' ([] : LB), .int .i64 (idxB r 47), .int .i64 ((idxB r 47)), St' (List.take (Int.toNat ((idxB r 47))) r), St' ((dcS (List.take (Int.toNat ((idxB r 47))) r)).getD []), .int .i64 ((idxB r 47) + 1), St' (List.drop (Int.toNat ((idxB r 47) + 1)) r), St' ([] : LB), .int .i64 (idxB r 47), .int .i64 ((idxB r 47)), St' (List.take (Int.toNat ((idxB r 47))) r), St' ((dcS (List.take (Int.toNat ((idxB r 47))) r)).getD []), .int .i64 ((o.length : Int)), .int .i64 ((o.length : Int) - 1), .int .i64 ((idxB r 47) + 1), St' (List.drop (Int.toNat ((idxB r 47) + 1)) r), St' ([] : LB), .int .i64 (idxB r 47), .int .i64 ((idxB r 47)), St' (List.take (Int.toNat ((idxB r 47))) r), St' ((dcS (List.take (Int.toNat ((idxB r 47))) r)).getD []), .int .i64 ((idxB r 47) + 1), St' (List.drop (Int.toNat ((idxB r 47) + 1)) r), St' ([] : LB), .int .i64 (idxB r 47), .int .i64 ((idxB r 47)), St' (List.take (Int.toNat ((idxB r 47))) r), St' (dcM (List.take (Int.toNat ((idxB r 47))) r)), St' ([] : LB), .int .i64 (idxB r 47), St' ([] : LB), St' (List.take (Int.toNat (0)) r), St' ((dcS (List.take (Int.toNat (0)) r)).getD []), St' (List.drop (Int.toNat (1)) r), St' ([] : LB), .int .i64 (idxB r 47), .int .i64 ((idxB r 47)), St' (List.take (Int.toNat ((idxB r 47))) r), St' ((dcS (List.take (Int.toNat ((idxB r 47))) r)).getD []), .int .i64 ((o.length : Int))]
def roCl_1 (Q : Option (LL × LB)) (M : LB) (To : List LB) (Tr : LB) (B : Bool) (r : LB) (o : List LB) : List Value := [rwS o, rwS ([] : List LB), rwS (o ++ [((dcS (List.take (Int.toNat ((idxB r 47))) r)).getD [])]), rwS ([] : List LB), rwS ([] : List LB), rwS (o.take (Int.toNat ((o.length : Int) - 1))), rwS ([] : List LB), rwS ([] : List LB), rwS ([] : List LB), rwS ([] : List LB), rwS ([] : List LB)]
def epCl (st : Nat × LB × List LB) : LA := if st.1 = 0 then epCl_0 else epCl_1
def hpCl (st : Nat × LB × List LB) : LE := if st.1 = 0 then hpCl_0 else hpCl_1
def nuCl (Q : Option (LL × LB)) (M : LB) (To : List LB) (Tr : LB) (B : Bool) (st : Nat × LB × List LB) : List Value := if st.1 = 0 then nuCl_0 Q M To Tr B (st.2.1) (st.2.2) else nuCl_1 Q M To Tr B (st.2.1) (st.2.2)
def roCl (Q : Option (LL × LB)) (M : LB) (To : List LB) (Tr : LB) (B : Bool) (st : Nat × LB × List LB) : List Value := if st.1 = 0 then roCl_0 Q M To Tr B (st.2.1) (st.2.2) else roCl_1 Q M To Tr B (st.2.1) (st.2.2)
theorem onCl (Q : Option (LL × LB)) (M : LB) (To : List LB) (Tr : LB) (B : Bool) (st : Nat × LB × List LB) : ∀ j, (nuL (nuCl Q M To Tr B st) j).oneCell' = true := by
  intro j
  unfold nuCl
  by_cases g0 : st.1 = 0
  · rw [if_pos g0]; exact nuL_one (l := nuCl_0 Q M To Tr B (st.2.1) (st.2.2)) rfl j
  rw [if_neg g0]
  exact nuL_one (l := nuCl_1 Q M To Tr B (st.2.1) (st.2.2)) rfl j
theorem ebCl (st : Nat × LB × List LB) : (lfB (epCl st) && lfC keepCl) = true := by
  unfold epCl
  by_cases g0 : st.1 = 0
  · rw [if_pos g0]; rfl
  rw [if_neg g0]
  rfl
noncomputable def DCl (Q : Option (LL × LB)) (M : LB) (To : List LB) (Tr : LB) (B : Bool) (st : Nat × LB × List LB) (X : Nat → Value) : Cx := cx (nuX (nuCl Q M To Tr B st) (rX (roCl Q M To Tr B st) X)) (nuX_one (onCl Q M To Tr B st)) 0 laidE laidE_stab
def InvCl (Q : Option (LL × LB)) (M : LB) (To : List LB) (Tr : LB) (B : Bool) (st : Nat × LB × List LB) : Prop := (clL unS (sp47 [] (st.2.1)) (st.2.2) = Q) ∧ (clE unS stM (sp47 [] (st.2.1)) (st.2.2) = M) ∧ ((decide ((st.1) = 1) || apL unS (sp47 [] (st.2.1))) = B) ∧ ((st.2.1).length ≤ 1000000) ∧ ((st.2.2).length + (st.2.1).length ≤ 1000000) ∧ ((st.1) = 0 → (st.2.2) = []) ∧ ((st.1) < 2)
abbrev CjCl (Q : Option (LL × LB)) (M : LB) (To : List LB) (Tr : LB) (B : Bool) (tag : Nat) (r : LB) (o : List LB) : Prop := (clL unS (sp47 [] r) o = Q) ∧ (clE unS stM (sp47 [] r) o = M) ∧ ((decide (tag = 1) || apL unS (sp47 [] r)) = B) ∧ (r.length ≤ 1000000) ∧ (o.length + r.length ≤ 1000000) ∧ (tag = 0 → o = []) ∧ (tag < 2)
theorem mkICl (Q : Option (LL × LB)) (M : LB) (To : List LB) (Tr : LB) (B : Bool) (tag : Nat) (r : LB) (o : List LB) (h : CjCl Q M To Tr B tag r o) : InvCl Q M To Tr B (tag, r, o) := h
theorem unICl (Q : Option (LL × LB)) (M : LB) (To : List LB) (Tr : LB) (B : Bool) (tag : Nat) (r : LB) (o : List LB) (h : InvCl Q M To Tr B (tag, r, o)) : (clL unS (sp47 [] r) o = Q) ∧ (clE unS stM (sp47 [] r) o = M) ∧ ((decide (tag = 1) || apL unS (sp47 [] r)) = B) ∧ (r.length ≤ 1000000) ∧ (o.length + r.length ≤ 1000000) ∧ (tag = 0 → o = []) ∧ (tag < 2) := h
def muCl (Q : Option (LL × LB)) (M : LB) (To : List LB) (Tr : LB) (B : Bool) (st : Nat × LB × List LB) : Nat := (st.2.1).length
abbrev RHCl (Q : Option (LL × LB)) (M : LB) (To : List LB) (Tr : LB) (B : Bool) (E' : Cx) (ex' : Ex) (epx' : LA) (hpx' : LE) (st : Nat × LB × List LB) (X : Nat → Value) : Prop := RoundH E' bodyCl keepCl 52 ex' 3 11 12 23 epCl hpCl epx' hpx' (InvCl Q M To Tr B) (muCl Q M To Tr B) (DCl Q M To Tr B) st X
noncomputable abbrev RNCl_0 (h : LK) (x : Ex) (th : LA) (sg : List (Nat × Nat)) (m : Nat) (ep : LA) (hp : LE) : Bool := okRdH (code (tbl h) 3000 [] bodyCl (envOf (headOf epCl_0 keepCl) 52) ⟨lhSet hpCl_0 .leaf, 12, 0, 0⟩) x keepCl 52 23 th sg 11 m ep hp
theorem stCl_0 (Q : Option (LL × LB)) (M : LB) (To : List LB) (Tr : LB) (B : Bool) (r : LB) (o : List LB) {X : Nat → Value} {h : LK} (y : Nat × LB × List LB) {th : LA} {sg : List (Nat × Nat)} (ho : ∀ a' r', (a', r') ∈ h → HOk (cx (nuX (nuCl_0 Q M To Tr B r o) (rX (roCl_0 Q M To Tr B r o) X)) (nuX_one (nuL_one (l := nuCl_0 Q M To Tr B r o) rfl)) 0 laidE laidE_stab) a' r') (hy : InvCl Q M To Tr B y) (lt : muCl Q M To Tr B y < muCl Q M To Tr B (0, r, o)) (ht : ThOk (cx (nuX (nuCl_0 Q M To Tr B r o) (rX (roCl_0 Q M To Tr B r o) X)) (nuX_one (nuL_one (l := nuCl_0 Q M To Tr B r o) rfl)) 0 laidE laidE_stab) (DCl Q M To Tr B y X) th) (run : RNCl_0 h .normal th sg 12 (epCl y) (hpCl y) = true) : RHCl Q M To Tr B E' x' e' h' (0, r, o) X :=
  RoundH.next (tb := tbl h) (L := []) (f := 3000) y ((tabkOk _ _).hyps ho) (LpOk.nil _) rfl hy lt ht run
theorem lvCl_0 (Q : Option (LL × LB)) (M : LB) (To : List LB) (Tr : LB) (B : Bool) (r : LB) (o : List LB) {X : Nat → Value} {h : LK} {th : LA} {sg : List (Nat × Nat)} (hne : exB x' .normal = false) (ho : ∀ a' r', (a', r') ∈ h → HOk (cx (nuX (nuCl_0 Q M To Tr B r o) (rX (roCl_0 Q M To Tr B r o) X)) (nuX_one (nuL_one (l := nuCl_0 Q M To Tr B r o) rfl)) 0 laidE laidE_stab) a' r') (ht : ThOk (cx (nuX (nuCl_0 Q M To Tr B r o) (rX (roCl_0 Q M To Tr B r o) X)) (nuX_one (nuL_one (l := nuCl_0 Q M To Tr B r o) rfl)) 0 laidE laidE_stab) E' th) (run : RNCl_0 h x' th sg 23 e' h' = true) : RHCl Q M To Tr B E' x' e' h' (0, r, o) X :=
  RoundH.leave (tb := tbl h) (L := []) (f := 3000) ((tabkOk _ _).hyps ho) (LpOk.nil _) rfl hne ht run
noncomputable abbrev RNCl_1 (h : LK) (x : Ex) (th : LA) (sg : List (Nat × Nat)) (m : Nat) (ep : LA) (hp : LE) : Bool := okRdH (code (tbl h) 3000 [] bodyCl (envOf (headOf epCl_1 keepCl) 52) ⟨lhSet hpCl_1 .leaf, 12, 0, 0⟩) x keepCl 52 23 th sg 11 m ep hp
theorem stCl_1 (Q : Option (LL × LB)) (M : LB) (To : List LB) (Tr : LB) (B : Bool) (r : LB) (o : List LB) {X : Nat → Value} {h : LK} (y : Nat × LB × List LB) {th : LA} {sg : List (Nat × Nat)} (ho : ∀ a' r', (a', r') ∈ h → HOk (cx (nuX (nuCl_1 Q M To Tr B r o) (rX (roCl_1 Q M To Tr B r o) X)) (nuX_one (nuL_one (l := nuCl_1 Q M To Tr B r o) rfl)) 0 laidE laidE_stab) a' r') (hy : InvCl Q M To Tr B y) (lt : muCl Q M To Tr B y < muCl Q M To Tr B (1, r, o)) (ht : ThOk (cx (nuX (nuCl_1 Q M To Tr B r o) (rX (roCl_1 Q M To Tr B r o) X)) (nuX_one (nuL_one (l := nuCl_1 Q M To Tr B r o) rfl)) 0 laidE laidE_stab) (DCl Q M To Tr B y X) th) (run : RNCl_1 h .normal th sg 12 (epCl y) (hpCl y) = true) : RHCl Q M To Tr B E' x' e' h' (1, r, o) X :=
  RoundH.next (tb := tbl h) (L := []) (f := 3000) y ((tabkOk _ _).hyps ho) (LpOk.nil _) rfl hy lt ht run
theorem lvCl_1 (Q : Option (LL × LB)) (M : LB) (To : List LB) (Tr : LB) (B : Bool) (r : LB) (o : List LB) {X : Nat → Value} {h : LK} {th : LA} {sg : List (Nat × Nat)} (hne : exB x' .normal = false) (ho : ∀ a' r', (a', r') ∈ h → HOk (cx (nuX (nuCl_1 Q M To Tr B r o) (rX (roCl_1 Q M To Tr B r o) X)) (nuX_one (nuL_one (l := nuCl_1 Q M To Tr B r o) rfl)) 0 laidE laidE_stab) a' r') (ht : ThOk (cx (nuX (nuCl_1 Q M To Tr B r o) (rX (roCl_1 Q M To Tr B r o) X)) (nuX_one (nuL_one (l := nuCl_1 Q M To Tr B r o) rfl)) 0 laidE laidE_stab) E' th) (run : RNCl_1 h x' th sg 23 e' h' = true) : RHCl Q M To Tr B E' x' e' h' (1, r, o) X :=
  RoundH.leave (tb := tbl h) (L := []) (f := 3000) ((tabkOk _ _).hyps ho) (LpOk.nil _) rfl hne ht run
def hyCl_p0 : LK := [(.rn, .x 2000000), (.bytes [], .x 1), (.bin .eql (.s 1 47) (.x 0), .b false), (.ext 46 [.x 0, .i .u8 (.ofNat 47)], .x 2), (.bin .lss (.x 2) (.i .i64 (.ofNat 0)), .b false), (.bin .add (.x 2) (.i .i64 (.ofNat 0)), .x 3), (.sub (.x 0) none (some (.x 3)), .x 4), (.call 14 [.x 4], .tu [.x 5, .ni]), (.bin .eql (.x 5) (.s 2 11822), .b false), (.bin .eql (.x 5) (.s 0 0), .b false), (.bin .eql (.x 5) (.s 1 46), .b false), (.ra (.x 2000000) [.x 5], .x 2000001), (.rf (.x 2000001) 1 16, .b true), (.bin .add (.x 2) (.i .i64 (.ofNat 1)), .x 6), (.sub (.x 0) (some (.x 6)) none, .x 7)]
theorem runCl_p0 : RNCl_0 hyCl_p0 .normal [(0, .x 7), (2000000, .x 2000001)] [(11, 13)] 12 epCl_1 hpCl_1 = true := by kernel_rfl
theorem nxCl_p0 (Q : Option (LL × LB)) (M : LB) (To : List LB) (Tr : LB) (B : Bool) (r : LB) (o : List LB) (X : Nat → Value) (hI : InvCl Q M To Tr B (0, r, o)) (h0 : ¬ ([u8 47] = r)) (h1 : ¬ (idxB r 47 < 0)) (h2 : ¬ (dcS (List.take (Int.toNat ((idxB r 47))) r) = none)) (h3 : ¬ (((dcS (List.take (Int.toNat ((idxB r 47))) r)).getD []) = [u8 46, u8 46])) (h4 : ¬ ((((dcS (List.take (Int.toNat ((idxB r 47))) r)).getD []).length : Int) = 0)) (h5 : ¬ (((dcS (List.take (Int.toNat ((idxB r 47))) r)).getD []) = [u8 46])) : RHCl Q M To Tr B E' x' e' h' (0, r, o) X := by
  obtain ⟨i0, i1, i2, i3, i4, i5, it⟩ := unICl Q M To Tr B 0 r o hI
  have := ix_bd r 47
  have := lenTake (l := r) (Q := (idxB r 47)) (by omega) (by omega)
  have := dcS_len (List.take (Int.toNat ((idxB r 47))) r)
  have := lenDrop (l := r) (P := (idxB r 47) + 1) (by omega) (by omega)
  refine stCl_0 Q M To Tr B r o (h := hyCl_p0) (1, (List.drop (Int.toNat ((idxB r 47) + 1)) r), (([] : List LB) ++ [((dcS (List.take (Int.toNat ((idxB r 47))) r)).getD [])])) ?_ (mkICl Q M To Tr B 1 (List.drop (Int.toNat ((idxB r 47) + 1)) r) (([] : List LB) ++ [((dcS (List.take (Int.toNat ((idxB r 47))) r)).getD [])]) ⟨cl_go (o := []) (by omega) (st_ap (o := []) (by assumption) (by assumption) (by omega) (by assumption)).1 (show clL unS (sp47 [] r) [] = Q from by have e := i0; rw [i5 rfl] at e; exact e), ce_go (o := []) (by omega) (st_ap (o := []) (by assumption) (by assumption) (by omega) (by assumption)).1 (show clE unS stM (sp47 [] r) [] = M from by have e := i1; rw [i5 rfl] at e; exact e), by rw [ap_yes (by omega) (st_ap (o := []) (by assumption) (by assumption) (by omega) (by assumption)).2.1 i2]; try rfl, by rw [List.length_drop]; omega, by first | omega | (simp only [List.length_append, List.length_cons, List.length_nil, List.length_drop, List.length_take]; omega), fun h => by omega, by omega⟩) (by show (List.drop _ r).length < r.length; rw [List.length_drop]; omega) (thXv (v := St' (List.drop (Int.toNat ((idxB r 47) + 1)) r)) rfl rfl (thXv (v := rwS (([] : List LB) ++ [((dcS (List.take (Int.toNat ((idxB r 47))) r)).getD [])])) rfl rfl (thNil))) runCl_p0
  unfold hyCl_p0
  exact hc (kRn (denX rfl)) <|
   hc (kBytesB (bs := ([] : LB)) .nil (denX rfl)) <|
   hc (kEqS (isSx (l := [u8 47]) 1 47 rfl) (isX rfl) (decide_eq_false (by assumption))) <|
   hc (kExtI (n := idxB r 47) exFIx exAIx exBIx (isX rfl) (isZ (m := 47) rfl) (denX rfl) rfl) <|
   hc (ltcF rfl (by omega)) <|
   hc (adC rfl rfl (by omega)) <|
   hc (tkV rfl rfl rfl (by omega)) <|
   hc (hokDec (s := (List.take (Int.toNat ((idxB r 47))) r)) (isX rfl) (by rw [if_neg (by assumption)]; exact denT2 (denX rfl) denNi) (by omega) (by omega)) <|
   hc (kEqS (isX rfl) (isSx (l := [u8 46, u8 46]) 2 11822 rfl) (decide_eq_false (by assumption))) <|
   hc (kEqS (isX rfl) (isSx (l := ([] : LB)) 0 0 rfl) (nilF (by omega))) <|
   hc (kEqS (isX rfl) (isSx (l := [u8 46]) 1 46 rfl) (decide_eq_false (by assumption))) <|
   hc (kRa (isX rfl) (isX rfl) (denX rfl)) <|
   hc (kRf (isX rfl) (by first | omega | (simp <;> omega)) (by first | omega | (simp <;> omega))) <|
   hc (adC rfl rfl (by omega)) <|
   hc (drV rfl rfl rfl (by omega)) <|
   hnil
def hyCl_p1 : LK := [(.rn, .x 2000002), (.bytes [], .x 8), (.bin .eql (.s 1 47) (.x 0), .b false), (.ext 46 [.x 0, .i .u8 (.ofNat 47)], .x 9), (.bin .lss (.x 9) (.i .i64 (.ofNat 0)), .b false), (.bin .add (.x 9) (.i .i64 (.ofNat 0)), .x 10), (.sub (.x 0) none (some (.x 10)), .x 11), (.call 14 [.x 11], .tu [.x 12, .ni]), (.bin .eql (.x 12) (.s 2 11822), .b false), (.bin .eql (.x 12) (.s 0 0), .b true), (.bin .add (.x 9) (.i .i64 (.ofNat 1)), .x 13), (.sub (.x 0) (some (.x 13)) none, .x 14)]
theorem runCl_p1 : RNCl_0 hyCl_p1 .normal [(0, .x 14)] [] 12 epCl_0 hpCl_0 = true := by kernel_rfl
theorem nxCl_p1 (Q : Option (LL × LB)) (M : LB) (To : List LB) (Tr : LB) (B : Bool) (r : LB) (o : List LB) (X : Nat → Value) (hI : InvCl Q M To Tr B (0, r, o)) (h0 : ¬ ([u8 47] = r)) (h1 : ¬ (idxB r 47 < 0)) (h2 : ¬ (dcS (List.take (Int.toNat ((idxB r 47))) r) = none)) (h3 : ¬ (((dcS (List.take (Int.toNat ((idxB r 47))) r)).getD []) = [u8 46, u8 46])) (h4 : (((dcS (List.take (Int.toNat ((idxB r 47))) r)).getD []).length : Int) = 0) : RHCl Q M To Tr B E' x' e' h' (0, r, o) X := by
  obtain ⟨i0, i1, i2, i3, i4, i5, it⟩ := unICl Q M To Tr B 0 r o hI
  have := ix_bd r 47
  have := lenTake (l := r) (Q := (idxB r 47)) (by omega) (by omega)
  have := dcS_len (List.take (Int.toNat ((idxB r 47))) r)
  have := lenDrop (l := r) (P := (idxB r 47) + 1) (by omega) (by omega)
  refine stCl_0 Q M To Tr B r o (h := hyCl_p1) (0, (List.drop (Int.toNat ((idxB r 47) + 1)) r), ([] : List LB)) ?_ (mkICl Q M To Tr B 0 (List.drop (Int.toNat ((idxB r 47) + 1)) r) ([] : List LB) ⟨cl_go (o := []) (by omega) (st_ps (o := []) (by assumption) (.inl (by omega))).1 (show clL unS (sp47 [] r) [] = Q from by have e := i0; rw [i5 rfl] at e; exact e), ce_go (o := []) (by omega) (st_ps (o := []) (by assumption) (.inl (by omega))).1 (show clE unS stM (sp47 [] r) [] = M from by have e := i1; rw [i5 rfl] at e; exact e), ap_no (by omega) (st_ps (o := []) (by assumption) (.inl (by omega))).2.1 i2, by rw [List.length_drop]; omega, by first | omega | (simp only [List.length_append, List.length_cons, List.length_nil, List.length_drop, List.length_take]; omega), fun _ => rfl, by omega⟩) (by show (List.drop _ r).length < r.length; rw [List.length_drop]; omega) (thXv (v := St' (List.drop (Int.toNat ((idxB r 47) + 1)) r)) rfl rfl (thNil)) runCl_p1
  unfold hyCl_p1
  exact hc (kRn (denX rfl)) <|
   hc (kBytesB (bs := ([] : LB)) .nil (denX rfl)) <|
   hc (kEqS (isSx (l := [u8 47]) 1 47 rfl) (isX rfl) (decide_eq_false (by assumption))) <|
   hc (kExtI (n := idxB r 47) exFIx exAIx exBIx (isX rfl) (isZ (m := 47) rfl) (denX rfl) rfl) <|
   hc (ltcF rfl (by omega)) <|
   hc (adC rfl rfl (by omega)) <|
   hc (tkV rfl rfl rfl (by omega)) <|
   hc (hokDec (s := (List.take (Int.toNat ((idxB r 47))) r)) (isX rfl) (by rw [if_neg (by assumption)]; exact denT2 (denX rfl) denNi) (by omega) (by omega)) <|
   hc (kEqS (isX rfl) (isSx (l := [u8 46, u8 46]) 2 11822 rfl) (decide_eq_false (by assumption))) <|
   hc (kEqS (isX rfl) (isSx (l := ([] : LB)) 0 0 rfl) (nilT (by omega))) <|
   hc (adC rfl rfl (by omega)) <|
   hc (drV rfl rfl rfl (by omega)) <|
   hnil
def hyCl_p2 : LK := [(.rn, .x 2000003), (.bytes [], .x 15), (.bin .eql (.s 1 47) (.x 0), .b false), (.ext 46 [.x 0, .i .u8 (.ofNat 47)], .x 16), (.bin .lss (.x 16) (.i .i64 (.ofNat 0)), .b false), (.bin .add (.x 16) (.i .i64 (.ofNat 0)), .x 17), (.sub (.x 0) none (some (.x 17)), .x 18), (.call 14 [.x 18], .tu [.x 19, .ni]), (.bin .eql (.x 19) (.s 2 11822), .b true)]
theorem runCl_p2 : RNCl_0 hyCl_p2 .ret [(0, .s 21 170204620060147215156831070085407667714849644748897)] [] 23 [] [(3, .b ⟨9, .l [.s 0 0], 0, 0, 0, false, false⟩), (4, .b ⟨24, .l [.ifc 48 (.ag [.i .i64 (.ofNat 10), .x 0])], 0, 0, 0, false, false⟩), (10, .k 5 [(2, .p 3 0), (3, .p 4 0), (4, .p 5 0), (5, .p 6 0)] 64 2 .ret)] = true := by kernel_rfl
def hyCl_p3 : LK := [(.rn, .x 2000004), (.bytes [], .x 20), (.bin .eql (.s 1 47) (.x 0), .b false), (.ext 46 [.x 0, .i .u8 (.ofNat 47)], .x 21), (.bin .lss (.x 21) (.i .i64 (.ofNat 0)), .b false), (.bin .add (.x 21) (.i .i64 (.ofNat 0)), .x 22), (.sub (.x 0) none (some (.x 22)), .x 23), (.call 14 [.x 23], .tu [.x 24, .ni]), (.bin .eql (.x 24) (.s 2 11822), .b false), (.bin .eql (.x 24) (.s 0 0), .b false), (.bin .eql (.x 24) (.s 1 46), .b true), (.bin .add (.x 21) (.i .i64 (.ofNat 1)), .x 25), (.sub (.x 0) (some (.x 25)) none, .x 26)]
theorem runCl_p3 : RNCl_0 hyCl_p3 .normal [(0, .x 26)] [] 12 epCl_0 hpCl_0 = true := by kernel_rfl
theorem nxCl_p3 (Q : Option (LL × LB)) (M : LB) (To : List LB) (Tr : LB) (B : Bool) (r : LB) (o : List LB) (X : Nat → Value) (hI : InvCl Q M To Tr B (0, r, o)) (h0 : ¬ ([u8 47] = r)) (h1 : ¬ (idxB r 47 < 0)) (h2 : ¬ (dcS (List.take (Int.toNat ((idxB r 47))) r) = none)) (h3 : ¬ (((dcS (List.take (Int.toNat ((idxB r 47))) r)).getD []) = [u8 46, u8 46])) (h4 : ¬ ((((dcS (List.take (Int.toNat ((idxB r 47))) r)).getD []).length : Int) = 0)) (h5 : ((dcS (List.take (Int.toNat ((idxB r 47))) r)).getD []) = [u8 46]) : RHCl Q M To Tr B E' x' e' h' (0, r, o) X := by
  obtain ⟨i0, i1, i2, i3, i4, i5, it⟩ := unICl Q M To Tr B 0 r o hI
  have := ix_bd r 47
  have := lenTake (l := r) (Q := (idxB r 47)) (by omega) (by omega)
  have := dcS_len (List.take (Int.toNat ((idxB r 47))) r)
  have := lenDrop (l := r) (P := (idxB r 47) + 1) (by omega) (by omega)
  refine stCl_0 Q M To Tr B r o (h := hyCl_p3) (0, (List.drop (Int.toNat ((idxB r 47) + 1)) r), ([] : List LB)) ?_ (mkICl Q M To Tr B 0 (List.drop (Int.toNat ((idxB r 47) + 1)) r) ([] : List LB) ⟨cl_go (o := []) (by omega) (st_ps (o := []) (by assumption) (.inr (by assumption))).1 (show clL unS (sp47 [] r) [] = Q from by have e := i0; rw [i5 rfl] at e; exact e), ce_go (o := []) (by omega) (st_ps (o := []) (by assumption) (.inr (by assumption))).1 (show clE unS stM (sp47 [] r) [] = M from by have e := i1; rw [i5 rfl] at e; exact e), ap_no (by omega) (st_ps (o := []) (by assumption) (.inr (by assumption))).2.1 i2, by rw [List.length_drop]; omega, by first | omega | (simp only [List.length_append, List.length_cons, List.length_nil, List.length_drop, List.length_take]; omega), fun _ => rfl, by omega⟩) (by show (List.drop _ r).length < r.length; rw [List.length_drop]; omega) (thXv (v := St' (List.drop (Int.toNat ((idxB r 47) + 1)) r)) rfl rfl (thNil)) runCl_p3
  unfold hyCl_p3
  exact hc (kRn (denX rfl)) <|
   hc (kBytesB (bs := ([] : LB)) .nil (denX rfl)) <|
   hc (kEqS (isSx (l := [u8 47]) 1 47 rfl) (isX rfl) (decide_eq_false (by assumption))) <|
   hc (kExtI (n := idxB r 47) exFIx exAIx exBIx (isX rfl) (isZ (m := 47) rfl) (denX rfl) rfl) <|
   hc (ltcF rfl (by omega)) <|
   hc (adC rfl rfl (by omega)) <|
   hc (tkV rfl rfl rfl (by omega)) <|
   hc (hokDec (s := (List.take (Int.toNat ((idxB r 47))) r)) (isX rfl) (by rw [if_neg (by assumption)]; exact denT2 (denX rfl) denNi) (by omega) (by omega)) <|
   hc (kEqS (isX rfl) (isSx (l := [u8 46, u8 46]) 2 11822 rfl) (decide_eq_false (by assumption))) <|
   hc (kEqS (isX rfl) (isSx (l := ([] : LB)) 0 0 rfl) (nilF (by omega))) <|
   hc (kEqS (isX rfl) (isSx (l := [u8 46]) 1 46 rfl) (decide_eq_true (by assumption))) <|
   hc (adC rfl rfl (by omega)) <|
   hc (drV rfl rfl rfl (by omega)) <|
   hnil
def hyCl_p4 : LK := [(.rn, .x 2000005), (.bytes [], .x 27), (.bin .eql (.s 1 47) (.x 0), .b false), (.ext 46 [.x 0, .i .u8 (.ofNat 47)], .x 28), (.bin .lss (.x 28) (.i .i64 (.ofNat 0)), .b false), (.bin .add (.x 28) (.i .i64 (.ofNat 0)), .x 29), (.sub (.x 0) none (some (.x 29)), .x 30), (.call 14 [.x 30], .tu [.s 0 0, .ifc 48 (.ag [.i .i64 (.ofNat 10), .x 31])])]
theorem runCl_p4 : RNCl_0 hyCl_p4 .ret [(0, .x 31)] [] 23 [] [(3, .b ⟨9, .l [.s 0 0], 0, 0, 0, false, false⟩), (4, .b ⟨24, .l [.ifc 48 (.ag [.i .i64 (.ofNat 10), .x 0])], 0, 0, 0, false, false⟩), (10, .k 5 [(2, .p 3 0), (3, .p 4 0), (4, .p 5 0), (5, .p 6 0)] 64 2 .ret)] = true := by kernel_rfl
def hyCl_p5 : LK := [(.rn, .x 2000006), (.bytes [], .x 32), (.bin .eql (.s 1 47) (.x 0), .b false), (.ext 46 [.x 0, .i .u8 (.ofNat 47)], .x 33), (.bin .lss (.x 33) (.i .i64 (.ofNat 0)), .b true)]
theorem runCl_p5 : RNCl_0 hyCl_p5 (.exit 2) [(0, .x 0)] [] 23 [(0, .yl 10), (2, .p 7 0)] [(3, .b ⟨9, .l [.s 0 0], 0, 0, 0, false, false⟩), (4, .b ⟨24, .l [.ni], 0, 0, 0, false, false⟩), (5, .b ⟨28, .l [.nils], 0, 0, 0, false, false⟩), (6, .b ⟨9, .l [.und], 0, 0, 0, false, false⟩), (7, .b ⟨9, .l [.x 0], 0, 0, 0, false, false⟩), (8, .b ⟨9, .l [.s 1 47], 0, 0, 0, false, false⟩), (9, .b ⟨3, .l [.i .i64 (.ofNat 0)], 0, 0, 0, false, false⟩), (10, .k 5 [(2, .p 3 0), (3, .p 4 0), (4, .p 5 0), (5, .p 6 0)] 64 0 .normal)] = true := by kernel_rfl
def hyCl_p6 : LK := [(.rn, .x 2000007), (.bytes [], .x 34), (.bin .eql (.s 1 47) (.x 0), .b true), (.sub (.x 0) none (some (.i .i64 (.ofNat 0))), .x 35), (.call 14 [.x 35], .tu [.x 36, .ni]), (.bin .eql (.x 36) (.s 2 11822), .b false), (.bin .eql (.x 36) (.s 0 0), .b true), (.sub (.x 0) (some (.i .i64 (.ofNat 1))) none, .x 37)]
theorem runCl_p6 : RNCl_0 hyCl_p6 .normal [(0, .x 37)] [] 12 epCl_0 hpCl_0 = true := by kernel_rfl
theorem nxCl_p6 (Q : Option (LL × LB)) (M : LB) (To : List LB) (Tr : LB) (B : Bool) (r : LB) (o : List LB) (X : Nat → Value) (hI : InvCl Q M To Tr B (0, r, o)) (h0 : [u8 47] = r) : RHCl Q M To Tr B E' x' e' h' (0, r, o) X := by
  obtain ⟨i0, i1, i2, i3, i4, i5, it⟩ := unICl Q M To Tr B 0 r o hI
  have hr1 := congrArg List.length (‹[u8 47] = r›); simp only [List.length_cons, List.length_nil] at hr1
  have := lenTake (l := r) (Q := 0) (by omega) (by omega)
  obtain ⟨hz1, hz2, hz3⟩ := dc_0 r
  have := dcS_len (List.take (Int.toNat (0)) r)
  have := lenDrop (l := r) (P := 1) (by omega) (by omega)
  refine stCl_0 Q M To Tr B r o (h := hyCl_p6) (0, (List.drop (Int.toNat (1)) r), ([] : List LB)) ?_ (mkICl Q M To Tr B 0 (List.drop (Int.toNat (1)) r) ([] : List LB) ⟨(cl_0 (o := []) (by assumption) (st_ps (o := []) (by assumption) (.inl (by omega))).1 (show clL unS (sp47 [] r) [] = Q from by have e := i0; rw [i5 rfl] at e; exact e) (show clE unS stM (sp47 [] r) [] = M from by have e := i1; rw [i5 rfl] at e; exact e)).1, (cl_0 (o := []) (by assumption) (st_ps (o := []) (by assumption) (.inl (by omega))).1 (show clL unS (sp47 [] r) [] = Q from by have e := i0; rw [i5 rfl] at e; exact e) (show clE unS stM (sp47 [] r) [] = M from by have e := i1; rw [i5 rfl] at e; exact e)).2, ap_0 (by assumption) (st_ps (o := []) (by assumption) (.inl (by omega))).2.1 i2, by rw [List.length_drop]; omega, by first | omega | (simp only [List.length_append, List.length_cons, List.length_nil, List.length_drop, List.length_take]; omega), fun _ => rfl, by omega⟩) (by have hr1 := congrArg List.length (‹[u8 47] = r›); simp only [List.length_cons, List.length_nil] at hr1; show (List.drop _ r).length < r.length; rw [List.length_drop]; omega) (thXv (v := St' (List.drop (Int.toNat (1)) r)) rfl rfl (thNil)) runCl_p6
  unfold hyCl_p6
  exact hc (kRn (denX rfl)) <|
   hc (kBytesB (bs := ([] : LB)) .nil (denX rfl)) <|
   hc (kEqS (isSx (l := [u8 47]) 1 47 rfl) (isX rfl) (decide_eq_true (by assumption))) <|
   hc (tkC rfl rfl (by omega)) <|
   hc (hokDec (s := (List.take (Int.toNat (0)) r)) (isX rfl) (by rw [if_neg (by assumption)]; exact denT2 (denX rfl) denNi) (by omega) (by omega)) <|
   hc (kEqS (isX rfl) (isSx (l := [u8 46, u8 46]) 2 11822 rfl) (decide_eq_false (by assumption))) <|
   hc (kEqS (isX rfl) (isSx (l := ([] : LB)) 0 0 rfl) (nilT (by omega))) <|
   hc (drC rfl rfl (by omega)) <|
   hnil
def hyCl_p7 : LK := [(.rn, .x 2000001), (.bytes [], .x 1), (.bin .eql (.s 1 47) (.x 0), .b false), (.ext 46 [.x 0, .i .u8 (.ofNat 47)], .x 2), (.bin .lss (.x 2) (.i .i64 (.ofNat 0)), .b false), (.bin .add (.x 2) (.i .i64 (.ofNat 0)), .x 3), (.sub (.x 0) none (some (.x 3)), .x 4), (.call 14 [.x 4], .tu [.x 5, .ni]), (.bin .eql (.x 5) (.s 2 11822), .b false), (.bin .eql (.x 5) (.s 0 0), .b false), (.bin .eql (.x 5) (.s 1 46), .b false), (.ra (.x 2000000) [.x 5], .x 2000002), (.rf (.x 2000002) 1 16, .b true), (.bin .add (.x 2) (.i .i64 (.ofNat 1)), .x 6), (.sub (.x 0) (some (.x 6)) none, .x 7)]
theorem runCl_p7 : RNCl_1 hyCl_p7 .normal [(0, .x 7), (2000000, .x 2000002)] [(11, 13)] 12 epCl_1 hpCl_1 = true := by kernel_rfl
theorem nxCl_p7 (Q : Option (LL × LB)) (M : LB) (To : List LB) (Tr : LB) (B : Bool) (r : LB) (o : List LB) (X : Nat → Value) (hI : InvCl Q M To Tr B (1, r, o)) (h0 : ¬ ([u8 47] = r)) (h1 : ¬ (idxB r 47 < 0)) (h2 : ¬ (dcS (List.take (Int.toNat ((idxB r 47))) r) = none)) (h3 : ¬ (((dcS (List.take (Int.toNat ((idxB r 47))) r)).getD []) = [u8 46, u8 46])) (h4 : ¬ ((((dcS (List.take (Int.toNat ((idxB r 47))) r)).getD []).length : Int) = 0)) (h5 : ¬ (((dcS (List.take (Int.toNat ((idxB r 47))) r)).getD []) = [u8 46])) : RHCl Q M To Tr B E' x' e' h' (1, r, o) X := by
  obtain ⟨i0, i1, i2, i3, i4, i5, it⟩ := unICl Q M To Tr B 1 r o hI
  have := ix_bd r 47
  have := lenTake (l := r) (Q := (idxB r 47)) (by omega) (by omega)
  have := dcS_len (List.take (Int.toNat ((idxB r 47))) r)
  have := lenDrop (l := r) (P := (idxB r 47) + 1) (by omega) (by omega)
  refine stCl_1 Q M To Tr B r o (h := hyCl_p7) (1, (List.drop (Int.toNat ((idxB r 47) + 1)) r), (o ++ [((dcS (List.take (Int.toNat ((idxB r 47))) r)).getD [])])) ?_ (mkICl Q M To Tr B 1 (List.drop (Int.toNat ((idxB r 47) + 1)) r) (o ++ [((dcS (List.take (Int.toNat ((idxB r 47))) r)).getD [])]) ⟨cl_go (o := o) (by omega) (st_ap (o := o) (by assumption) (by assumption) (by omega) (by assumption)).1 i0, ce_go (o := o) (by omega) (st_ap (o := o) (by assumption) (by assumption) (by omega) (by assumption)).1 i1, by rw [← i2]; try rfl, by rw [List.length_drop]; omega, by first | omega | (simp only [List.length_append, List.length_cons, List.length_nil, List.length_drop, List.length_take]; omega), fun h => by omega, by omega⟩) (by show (List.drop _ r).length < r.length; rw [List.length_drop]; omega) (thXv (v := St' (List.drop (Int.toNat ((idxB r 47) + 1)) r)) rfl rfl (thXv (v := rwS (o ++ [((dcS (List.take (Int.toNat ((idxB r 47))) r)).getD [])])) rfl rfl (thNil))) runCl_p7
  unfold hyCl_p7
  exact hc (kRn (denX rfl)) <|
   hc (kBytesB (bs := ([] : LB)) .nil (denX rfl)) <|
   hc (kEqS (isSx (l := [u8 47]) 1 47 rfl) (isX rfl) (decide_eq_false (by assumption))) <|
   hc (kExtI (n := idxB r 47) exFIx exAIx exBIx (isX rfl) (isZ (m := 47) rfl) (denX rfl) rfl) <|
   hc (ltcF rfl (by omega)) <|
   hc (adC rfl rfl (by omega)) <|
   hc (tkV rfl rfl rfl (by omega)) <|
   hc (hokDec (s := (List.take (Int.toNat ((idxB r 47))) r)) (isX rfl) (by rw [if_neg (by assumption)]; exact denT2 (denX rfl) denNi) (by omega) (by omega)) <|
   hc (kEqS (isX rfl) (isSx (l := [u8 46, u8 46]) 2 11822 rfl) (decide_eq_false (by assumption))) <|
   hc (kEqS (isX rfl) (isSx (l := ([] : LB)) 0 0 rfl) (nilF (by omega))) <|
   hc (kEqS (isX rfl) (isSx (l := [u8 46]) 1 46 rfl) (decide_eq_false (by assumption))) <|
   hc (kRa (isX rfl) (isX rfl) (denX rfl)) <|
   hc (kRf (isX rfl) (by first | omega | (simp <;> omega)) (by first | omega | (simp <;> omega))) <|
   hc (adC rfl rfl (by omega)) <|
   hc (drV rfl rfl rfl (by omega)) <|
   hnil
def hyCl_p8 : LK := [(.rn, .x 2000003), (.bytes [], .x 8), (.bin .eql (.s 1 47) (.x 0), .b false), (.ext 46 [.x 0, .i .u8 (.ofNat 47)], .x 9), (.bin .lss (.x 9) (.i .i64 (.ofNat 0)), .b false), (.bin .add (.x 9) (.i .i64 (.ofNat 0)), .x 10), (.sub (.x 0) none (some (.x 10)), .x 11), (.call 14 [.x 11], .tu [.x 12, .ni]), (.bin .eql (.x 12) (.s 2 11822), .b false), (.bin .eql (.x 12) (.s 0 0), .b true), (.bin .add (.x 9) (.i .i64 (.ofNat 1)), .x 13), (.sub (.x 0) (some (.x 13)) none, .x 14)]
theorem runCl_p8 : RNCl_1 hyCl_p8 .normal [(0, .x 14), (2000000, .x 2000000)] [(11, 11)] 12 epCl_1 hpCl_1 = true := by kernel_rfl
theorem nxCl_p8 (Q : Option (LL × LB)) (M : LB) (To : List LB) (Tr : LB) (B : Bool) (r : LB) (o : List LB) (X : Nat → Value) (hI : InvCl Q M To Tr B (1, r, o)) (h0 : ¬ ([u8 47] = r)) (h1 : ¬ (idxB r 47 < 0)) (h2 : ¬ (dcS (List.take (Int.toNat ((idxB r 47))) r) = none)) (h3 : ¬ (((dcS (List.take (Int.toNat ((idxB r 47))) r)).getD []) = [u8 46, u8 46])) (h4 : (((dcS (List.take (Int.toNat ((idxB r 47))) r)).getD []).length : Int) = 0) : RHCl Q M To Tr B E' x' e' h' (1, r, o) X := by
  obtain ⟨i0, i1, i2, i3, i4, i5, it⟩ := unICl Q M To Tr B 1 r o hI
  have := ix_bd r 47
  have := lenTake (l := r) (Q := (idxB r 47)) (by omega) (by omega)
  have := dcS_len (List.take (Int.toNat ((idxB r 47))) r)
  have := lenDrop (l := r) (P := (idxB r 47) + 1) (by omega) (by omega)
  refine stCl_1 Q M To Tr B r o (h := hyCl_p8) (1, (List.drop (Int.toNat ((idxB r 47) + 1)) r), o) ?_ (mkICl Q M To Tr B 1 (List.drop (Int.toNat ((idxB r 47) + 1)) r) o ⟨cl_go (o := o) (by omega) (st_ps (o := o) (by assumption) (.inl (by omega))).1 i0, ce_go (o := o) (by omega) (st_ps (o := o) (by assumption) (.inl (by omega))).1 i1, ap_no (by omega) (st_ps (o := o) (by assumption) (.inl (by omega))).2.1 i2, by rw [List.length_drop]; omega, by first | omega | (simp only [List.length_append, List.length_cons, List.length_nil, List.length_drop, List.length_take]; omega), fun h => by omega, by omega⟩) (by show (List.drop _ r).length < r.length; rw [List.length_drop]; omega) (thXv (v := St' (List.drop (Int.toNat ((idxB r 47) + 1)) r)) rfl rfl (thXv (v := rwS o) rfl rfl (thNil))) runCl_p8
  unfold hyCl_p8
  exact hc (kRn (denX rfl)) <|
   hc (kBytesB (bs := ([] : LB)) .nil (denX rfl)) <|
   hc (kEqS (isSx (l := [u8 47]) 1 47 rfl) (isX rfl) (decide_eq_false (by assumption))) <|
   hc (kExtI (n := idxB r 47) exFIx exAIx exBIx (isX rfl) (isZ (m := 47) rfl) (denX rfl) rfl) <|
   hc (ltcF rfl (by omega)) <|
   hc (adC rfl rfl (by omega)) <|
   hc (tkV rfl rfl rfl (by omega)) <|
   hc (hokDec (s := (List.take (Int.toNat ((idxB r 47))) r)) (isX rfl) (by rw [if_neg (by assumption)]; exact denT2 (denX rfl) denNi) (by omega) (by omega)) <|
   hc (kEqS (isX rfl) (isSx (l := [u8 46, u8 46]) 2 11822 rfl) (decide_eq_false (by assumption))) <|
   hc (kEqS (isX rfl) (isSx (l := ([] : LB)) 0 0 rfl) (nilT (by omega))) <|
   hc (adC rfl rfl (by omega)) <|
   hc (drV rfl rfl rfl (by omega)) <|
   hnil
def hyCl_p9 : LK := [(.rn, .x 2000004), (.bytes [], .x 15), (.bin .eql (.s 1 47) (.x 0), .b false), (.ext 46 [.x 0, .i .u8 (.ofNat 47)], .x 16), (.bin .lss (.x 16) (.i .i64 (.ofNat 0)), .b false), (.bin .add (.x 16) (.i .i64 (.ofNat 0)), .x 17), (.sub (.x 0) none (some (.x 17)), .x 18), (.call 14 [.x 18], .tu [.x 19, .ni]), (.bin .eql (.x 19) (.s 2 11822), .b true), (.rl (.x 2000000) 1, .x 20), (.bin .eql (.x 20) (.i .i64 (.ofNat 0)), .b false), (.bin .sub (.x 20) (.i .i64 (.ofNat 1)), .x 21), (.rt (.x 2000000) (.x 21) 1, .x 2000005), (.bin .add (.x 16) (.i .i64 (.ofNat 1)), .x 22), (.sub (.x 0) (some (.x 22)) none, .x 23)]
theorem runCl_p9 : RNCl_1 hyCl_p9 .normal [(0, .x 23), (2000000, .x 2000005)] [(11, 12)] 12 epCl_1 hpCl_1 = true := by kernel_rfl
theorem nxCl_p9 (Q : Option (LL × LB)) (M : LB) (To : List LB) (Tr : LB) (B : Bool) (r : LB) (o : List LB) (X : Nat → Value) (hI : InvCl Q M To Tr B (1, r, o)) (h0 : ¬ ([u8 47] = r)) (h1 : ¬ (idxB r 47 < 0)) (h2 : ¬ (dcS (List.take (Int.toNat ((idxB r 47))) r) = none)) (h3 : ((dcS (List.take (Int.toNat ((idxB r 47))) r)).getD []) = [u8 46, u8 46]) (h4 : ¬ ((o.length : Int) = 0)) : RHCl Q M To Tr B E' x' e' h' (1, r, o) X := by
  obtain ⟨i0, i1, i2, i3, i4, i5, it⟩ := unICl Q M To Tr B 1 r o hI
  have := ix_bd r 47
  have := lenTake (l := r) (Q := (idxB r 47)) (by omega) (by omega)
  have := dcS_len (List.take (Int.toNat ((idxB r 47))) r)
  obtain ⟨hdd1, hdd2⟩ := dd_f (t := ((dcS (List.take (Int.toNat ((idxB r 47))) r)).getD [])) (by assumption)
  have := lenDrop (l := r) (P := (idxB r 47) + 1) (by omega) (by omega)
  refine stCl_1 Q M To Tr B r o (h := hyCl_p9) (1, (List.drop (Int.toNat ((idxB r 47) + 1)) r), (o.take (Int.toNat ((o.length : Int) - 1)))) ?_ (mkICl Q M To Tr B 1 (List.drop (Int.toNat ((idxB r 47) + 1)) r) (o.take (Int.toNat ((o.length : Int) - 1))) ⟨cl_go (o := o) (by omega) (st_pop (o := o) (by assumption) (by assumption) (by omega)).1 i0, ce_go (o := o) (by omega) (st_pop (o := o) (by assumption) (by assumption) (by omega)).1 i1, ap_no (by omega) (st_pop (o := o) (by assumption) (by assumption) (by omega)).2 i2, by rw [List.length_drop]; omega, by first | omega | (simp only [List.length_append, List.length_cons, List.length_nil, List.length_drop, List.length_take]; omega), fun h => by omega, by omega⟩) (by show (List.drop _ r).length < r.length; rw [List.length_drop]; omega) (thXv (v := St' (List.drop (Int.toNat ((idxB r 47) + 1)) r)) rfl rfl (thXv (v := rwS (o.take (Int.toNat ((o.length : Int) - 1)))) rfl rfl (thNil))) runCl_p9
  unfold hyCl_p9
  exact hc (kRn (denX rfl)) <|
   hc (kBytesB (bs := ([] : LB)) .nil (denX rfl)) <|
   hc (kEqS (isSx (l := [u8 47]) 1 47 rfl) (isX rfl) (decide_eq_false (by assumption))) <|
   hc (kExtI (n := idxB r 47) exFIx exAIx exBIx (isX rfl) (isZ (m := 47) rfl) (denX rfl) rfl) <|
   hc (ltcF rfl (by omega)) <|
   hc (adC rfl rfl (by omega)) <|
   hc (tkV rfl rfl rfl (by omega)) <|
   hc (hokDec (s := (List.take (Int.toNat ((idxB r 47))) r)) (isX rfl) (by rw [if_neg (by assumption)]; exact denT2 (denX rfl) denNi) (by omega) (by omega)) <|
   hc (kEqS (isX rfl) (isSx (l := [u8 46, u8 46]) 2 11822 rfl) (decide_eq_true (by assumption))) <|
   hc (kRl (isX rfl) (denX rfl) (by first | omega | (simp <;> omega))) <|
   hc (eqcF rfl (by omega)) <|
   hc (sbC rfl rfl (by omega)) <|
   hc (kRtS (j := (Int.toNat ((o.length : Int) - 1))) (isX rfl) (isX rfl) (denX rfl) (by omega) (by omega)) <|
   hc (adC rfl rfl (by omega)) <|
   hc (drV rfl rfl rfl (by omega)) <|
   hnil
def hyCl_p10 : LK := [(.rn, .x 2000006), (.bytes [], .x 24), (.bin .eql (.s 1 47) (.x 0), .b false), (.ext 46 [.x 0, .i .u8 (.ofNat 47)], .x 25), (.bin .lss (.x 25) (.i .i64 (.ofNat 0)), .b false), (.bin .add (.x 25) (.i .i64 (.ofNat 0)), .x 26), (.sub (.x 0) none (some (.x 26)), .x 27), (.call 14 [.x 27], .tu [.x 28, .ni]), (.bin .eql (.x 28) (.s 2 11822), .b false), (.bin .eql (.x 28) (.s 0 0), .b false), (.bin .eql (.x 28) (.s 1 46), .b true), (.bin .add (.x 25) (.i .i64 (.ofNat 1)), .x 29), (.sub (.x 0) (some (.x 29)) none, .x 30)]
theorem runCl_p10 : RNCl_1 hyCl_p10 .normal [(0, .x 30), (2000000, .x 2000000)] [(11, 11)] 12 epCl_1 hpCl_1 = true := by kernel_rfl
theorem nxCl_p10 (Q : Option (LL × LB)) (M : LB) (To : List LB) (Tr : LB) (B : Bool) (r : LB) (o : List LB) (X : Nat → Value) (hI : InvCl Q M To Tr B (1, r, o)) (h0 : ¬ ([u8 47] = r)) (h1 : ¬ (idxB r 47 < 0)) (h2 : ¬ (dcS (List.take (Int.toNat ((idxB r 47))) r) = none)) (h3 : ¬ (((dcS (List.take (Int.toNat ((idxB r 47))) r)).getD []) = [u8 46, u8 46])) (h4 : ¬ ((((dcS (List.take (Int.toNat ((idxB r 47))) r)).getD []).length : Int) = 0)) (h5 : ((dcS (List.take (Int.toNat ((idxB r 47))) r)).getD []) = [u8 46]) : RHCl Q M To Tr B E' x' e' h' (1, r, o) X := by
  obtain ⟨i0, i1, i2, i3, i4, i5, it⟩ := unICl Q M To Tr B 1 r o hI
  have := ix_bd r 47
  have := lenTake (l := r) (Q := (idxB r 47)) (by omega) (by omega)
  have := dcS_len (List.take (Int.toNat ((idxB r 47))) r)
  have := lenDrop (l := r) (P := (idxB r 47) + 1) (by omega) (by omega)
  refine stCl_1 Q M To Tr B r o (h := hyCl_p10) (1, (List.drop (Int.toNat ((idxB r 47) + 1)) r), o) ?_ (mkICl Q M To Tr B 1 (List.drop (Int.toNat ((idxB r 47) + 1)) r) o ⟨cl_go (o := o) (by omega) (st_ps (o := o) (by assumption) (.inr (by assumption))).1 i0, ce_go (o := o) (by omega) (st_ps (o := o) (by assumption) (.inr (by assumption))).1 i1, ap_no (by omega) (st_ps (o := o) (by assumption) (.inr (by assumption))).2.1 i2, by rw [List.length_drop]; omega, by first | omega | (simp only [List.length_append, List.length_cons, List.length_nil, List.length_drop, List.length_take]; omega), fun h => by omega, by omega⟩) (by show (List.drop _ r).length < r.length; rw [List.length_drop]; omega) (thXv (v := St' (List.drop (Int.toNat ((idxB r 47) + 1)) r)) rfl rfl (thXv (v := rwS o) rfl rfl (thNil))) runCl_p10
  unfold hyCl_p10
  exact hc (kRn (denX rfl)) <|
   hc (kBytesB (bs := ([] : LB)) .nil (denX rfl)) <|
   hc (kEqS (isSx (l := [u8 47]) 1 47 rfl) (isX rfl) (decide_eq_false (by assumption))) <|
   hc (kExtI (n := idxB r 47) exFIx exAIx exBIx (isX rfl) (isZ (m := 47) rfl) (denX rfl) rfl) <|
   hc (ltcF rfl (by omega)) <|
   hc (adC rfl rfl (by omega)) <|
   hc (tkV rfl rfl rfl (by omega)) <|
   hc (hokDec (s := (List.take (Int.toNat ((idxB r 47))) r)) (isX rfl) (by rw [if_neg (by assumption)]; exact denT2 (denX rfl) denNi) (by omega) (by omega)) <|
   hc (kEqS (isX rfl) (isSx (l := [u8 46, u8 46]) 2 11822 rfl) (decide_eq_false (by assumption))) <|
   hc (kEqS (isX rfl) (isSx (l := ([] : LB)) 0 0 rfl) (nilF (by omega))) <|
   hc (kEqS (isX rfl) (isSx (l := [u8 46]) 1 46 rfl) (decide_eq_true (by assumption))) <|
   hc (adC rfl rfl (by omega)) <|
   hc (drV rfl rfl rfl (by omega)) <|
   hnil
def hyCl_p11 : LK := [(.rn, .x 2000007), (.bytes [], .x 31), (.bin .eql (.s 1 47) (.x 0), .b false), (.ext 46 [.x 0, .i .u8 (.ofNat 47)], .x 32), (.bin .lss (.x 32) (.i .i64 (.ofNat 0)), .b false), (.bin .add (.x 32) (.i .i64 (.ofNat 0)), .x 33), (.sub (.x 0) none (some (.x 33)), .x 34), (.call 14 [.x 34], .tu [.s 0 0, .ifc 48 (.ag [.i .i64 (.ofNat 10), .x 35])])]
theorem runCl_p11 : RNCl_1 hyCl_p11 .ret [(0, .x 35)] [] 23 [] [(3, .b ⟨9, .l [.s 0 0], 0, 0, 0, false, false⟩), (4, .b ⟨24, .l [.ifc 48 (.ag [.i .i64 (.ofNat 10), .x 0])], 0, 0, 0, false, false⟩), (10, .k 5 [(2, .p 3 0), (3, .p 4 0), (4, .p 5 0), (5, .p 6 0)] 64 2 .ret)] = true := by kernel_rfl
def hyCl_p12 : LK := [(.rn, .x 2000008), (.bytes [], .x 36), (.bin .eql (.s 1 47) (.x 0), .b false), (.ext 46 [.x 0, .i .u8 (.ofNat 47)], .x 37), (.bin .lss (.x 37) (.i .i64 (.ofNat 0)), .b true)]
theorem runCl_p12 : RNCl_1 hyCl_p12 (.exit 2) [(0, .x 0), (2000000, .x 2000000)] [(11, 11)] 23 [(0, .yl 10), (2, .p 7 0)] [(3, .b ⟨9, .l [.s 0 0], 0, 0, 0, false, false⟩), (4, .b ⟨24, .l [.ni], 0, 0, 0, false, false⟩), (5, .b ⟨28, .l [.sr 11], 0, 0, 0, false, false⟩), (6, .b ⟨9, .l [.und], 0, 0, 0, false, false⟩), (7, .b ⟨9, .l [.x 0], 0, 0, 0, false, false⟩), (8, .b ⟨9, .l [.s 1 47], 0, 0, 0, false, false⟩), (9, .b ⟨3, .l [.i .i64 (.ofNat 0)], 0, 0, 0, false, false⟩), (10, .k 5 [(2, .p 3 0), (3, .p 4 0), (4, .p 5 0), (5, .p 6 0)] 64 0 .normal), (11, .r 2000000 9 1 false)] = true := by kernel_rfl
def hyCl_p13 : LK := [(.rn, .x 2000009), (.bytes [], .x 38), (.bin .eql (.s 1 47) (.x 0), .b true), (.sub (.x 0) none (some (.i .i64 (.ofNat 0))), .x 39), (.call 14 [.x 39], .tu [.x 40, .ni]), (.bin .eql (.x 40) (.s 2 11822), .b false), (.bin .eql (.x 40) (.s 0 0), .b true), (.sub (.x 0) (some (.i .i64 (.ofNat 1))) none, .x 41)]
theorem runCl_p13 : RNCl_1 hyCl_p13 .normal [(0, .x 41), (2000000, .x 2000000)] [(11, 11)] 12 epCl_1 hpCl_1 = true := by kernel_rfl
theorem nxCl_p13 (Q : Option (LL × LB)) (M : LB) (To : List LB) (Tr : LB) (B : Bool) (r : LB) (o : List LB) (X : Nat → Value) (hI : InvCl Q M To Tr B (1, r, o)) (h0 : [u8 47] = r) : RHCl Q M To Tr B E' x' e' h' (1, r, o) X := by
  obtain ⟨i0, i1, i2, i3, i4, i5, it⟩ := unICl Q M To Tr B 1 r o hI
  have hr1 := congrArg List.length (‹[u8 47] = r›); simp only [List.length_cons, List.length_nil] at hr1
  have := lenTake (l := r) (Q := 0) (by omega) (by omega)
  obtain ⟨hz1, hz2, hz3⟩ := dc_0 r
  have := dcS_len (List.take (Int.toNat (0)) r)
  have := lenDrop (l := r) (P := 1) (by omega) (by omega)
  refine stCl_1 Q M To Tr B r o (h := hyCl_p13) (1, (List.drop (Int.toNat (1)) r), o) ?_ (mkICl Q M To Tr B 1 (List.drop (Int.toNat (1)) r) o ⟨(cl_0 (o := o) (by assumption) (st_ps (o := o) (by assumption) (.inl (by omega))).1 i0 i1).1, (cl_0 (o := o) (by assumption) (st_ps (o := o) (by assumption) (.inl (by omega))).1 i0 i1).2, ap_0 (by assumption) (st_ps (o := o) (by assumption) (.inl (by omega))).2.1 i2, by rw [List.length_drop]; omega, by first | omega | (simp only [List.length_append, List.length_cons, List.length_nil, List.length_drop, List.length_take]; omega), fun h => by omega, by omega⟩) (by have hr1 := congrArg List.length (‹[u8 47] = r›); simp only [List.length_cons, List.length_nil] at hr1; show (List.drop _ r).length < r.length; rw [List.length_drop]; omega) (thXv (v := St' (List.drop (Int.toNat (1)) r)) rfl rfl (thXv (v := rwS o) rfl rfl (thNil))) runCl_p13
  unfold hyCl_p13
  exact hc (kRn (denX rfl)) <|
   hc (kBytesB (bs := ([] : LB)) .nil (denX rfl)) <|
   hc (kEqS (isSx (l := [u8 47]) 1 47 rfl) (isX rfl) (decide_eq_true (by assumption))) <|
   hc (tkC rfl rfl (by omega)) <|
   hc (hokDec (s := (List.take (Int.toNat (0)) r)) (isX rfl) (by rw [if_neg (by assumption)]; exact denT2 (denX rfl) denNi) (by omega) (by omega)) <|
   hc (kEqS (isX rfl) (isSx (l := [u8 46, u8 46]) 2 11822 rfl) (decide_eq_false (by assumption))) <|
   hc (kEqS (isX rfl) (isSx (l := ([] : LB)) 0 0 rfl) (nilT (by omega))) <|
   hc (drC rfl rfl (by omega)) <|
   hnil
def hyCl_p14 : LK := [(.rn, .x 2000010), (.bytes [], .x 42), (.bin .eql (.s 1 47) (.x 0), .b false), (.ext 46 [.x 0, .i .u8 (.ofNat 47)], .x 43), (.bin .lss (.x 43) (.i .i64 (.ofNat 0)), .b false), (.bin .add (.x 43) (.i .i64 (.ofNat 0)), .x 44), (.sub (.x 0) none (some (.x 44)), .x 45), (.call 14 [.x 45], .tu [.x 46, .ni]), (.bin .eql (.x 46) (.s 2 11822), .b true), (.rl (.x 2000000) 1, .x 47), (.bin .eql (.x 47) (.i .i64 (.ofNat 0)), .b true)]
theorem runCl_p14 : RNCl_1 hyCl_p14 .ret [(0, .s 21 170204620060147215156831070085407667714849644748897)] [] 23 [] [(3, .b ⟨9, .l [.s 0 0], 0, 0, 0, false, false⟩), (4, .b ⟨24, .l [.ifc 48 (.ag [.i .i64 (.ofNat 10), .x 0])], 0, 0, 0, false, false⟩), (10, .k 5 [(2, .p 3 0), (3, .p 4 0), (4, .p 5 0), (5, .p 6 0)] 64 2 .ret)] = true := by kernel_rfl
def nuECl_0 (Q : Option (LL × LB)) (M : LB) (To : List LB) (Tr : LB) (B : Bool) : List Value := [St' Tr]
def roECl_0 (Q : Option (LL × LB)) (M : LB) (To : List LB) (Tr : LB) (B : Bool) : List Value := []
noncomputable def ECl_0 (Q : Option (LL × LB)) (M : LB) (To : List LB) (Tr : LB) (B : Bool) : Cx := cx (nuX (nuECl_0 Q M To Tr B) (rX (roECl_0 Q M To Tr B) (fun _ => .bool true))) (nuX_one (nuL_one (l := nuECl_0 Q M To Tr B) rfl)) 0 laidE laidE_stab
theorem roundsCl_0 (Q : Option (LL × LB)) (M : LB) (To : List LB) (Tr : LB) (B : Bool) (x0 : Q = some ([], Tr)) (x1 : B = false) (st : Nat × LB × List LB) (X : Nat → Value) (hI : InvCl Q M To Tr B st) : RHCl Q M To Tr B (ECl_0 Q M To Tr B) (.exit 2) [(0, .yl 10), (2, .p 7 0)] [(3, .b ⟨9, .l [.s 0 0], 0, 0, 0, false, false⟩), (4, .b ⟨24, .l [.ni], 0, 0, 0, false, false⟩), (5, .b ⟨28, .l [.nils], 0, 0, 0, false, false⟩), (6, .b ⟨9, .l [.und], 0, 0, 0, false, false⟩), (7, .b ⟨9, .l [.x 0], 0, 0, 0, false, false⟩), (8, .b ⟨9, .l [.s 1 47], 0, 0, 0, false, false⟩), (9, .b ⟨3, .l [.i .i64 (.ofNat 0)], 0, 0, 0, false, false⟩), (10, .k 5 [(2, .p 3 0), (3, .p 4 0), (4, .p 5 0), (5, .p 6 0)] 64 0 .normal)] st X := by
  obtain ⟨tag, r, o⟩ := st
  have hI0 := hI
  obtain ⟨i0, i1, i2, i3, i4, i5, it⟩ := unICl Q M To Tr B tag r o hI
  rcases (show tag = 0 ∨ tag = 1 from by omega) with rfl | rfl
  · skip
    by_cases h0 : [u8 47] = r
    · exact nxCl_p6 Q M To Tr B r o X hI0 h0
    · by_cases h1 : idxB r 47 < 0
      · skip
        have := ix_bd r 47
        refine lvCl_0 Q M To Tr B r o (h := hyCl_p5) rfl ?_ (thXe (v := St' r) (u := St' Tr) rfl rfl (congrArg (fun l => St' l) (ex_r (cl_end (by omega) i0) x0).2) (thNil)) runCl_p5
        unfold hyCl_p5
        exact hc (kRn (denX rfl)) <|
         hc (kBytesB (bs := ([] : LB)) .nil (denX rfl)) <|
         hc (kEqS (isSx (l := [u8 47]) 1 47 rfl) (isX rfl) (decide_eq_false (by assumption))) <|
         hc (kExtI (n := idxB r 47) exFIx exAIx exBIx (isX rfl) (isZ (m := 47) rfl) (denX rfl) rfl) <|
         hc (ltcT rfl (by omega)) <|
         hnil
      · by_cases h2 : dcS (List.take (Int.toNat ((idxB r 47))) r) = none
        · exfalso; rw [cl_bad (by omega) (st_bad (o := o) (by assumption)).1 i0] at x0; cases x0
        · by_cases h3 : ((dcS (List.take (Int.toNat ((idxB r 47))) r)).getD []) = [u8 46, u8 46]
          · exfalso; rw [cl_bad (by omega) (st_out (o := o) (by assumption) (by assumption) (i5 rfl)).1 i0] at x0; cases x0
          · by_cases h4 : (((dcS (List.take (Int.toNat ((idxB r 47))) r)).getD []).length : Int) = 0
            · exact nxCl_p1 Q M To Tr B r o X hI0 h0 h1 h2 h3 h4
            · by_cases h5 : ((dcS (List.take (Int.toNat ((idxB r 47))) r)).getD []) = [u8 46]
              · exact nxCl_p3 Q M To Tr B r o X hI0 h0 h1 h2 h3 h4 h5
              · exact nxCl_p0 Q M To Tr B r o X hI0 h0 h1 h2 h3 h4 h5
  · skip
    by_cases h0 : [u8 47] = r
    · exact nxCl_p13 Q M To Tr B r o X hI0 h0
    · by_cases h1 : idxB r 47 < 0
      · exfalso; rw [ap_end (by omega) i2] at x1; exact absurd x1 (by decide)
      · by_cases h2 : dcS (List.take (Int.toNat ((idxB r 47))) r) = none
        · exfalso; rw [cl_bad (by omega) (st_bad (o := o) (by assumption)).1 i0] at x0; cases x0
        · by_cases h3 : ((dcS (List.take (Int.toNat ((idxB r 47))) r)).getD []) = [u8 46, u8 46]
          · by_cases h4 : (o.length : Int) = 0
            · exfalso; rw [cl_bad (by omega) (st_out (o := o) (by assumption) (by assumption) (List.eq_nil_of_length_eq_zero (by omega))).1 i0] at x0; cases x0
            · exact nxCl_p9 Q M To Tr B r o X hI0 h0 h1 h2 h3 h4
          · by_cases h4 : (((dcS (List.take (Int.toNat ((idxB r 47))) r)).getD []).length : Int) = 0
            · exact nxCl_p8 Q M To Tr B r o X hI0 h0 h1 h2 h3 h4
            · by_cases h5 : ((dcS (List.take (Int.toNat ((idxB r 47))) r)).getD []) = [u8 46]
              · exact nxCl_p10 Q M To Tr B r o X hI0 h0 h1 h2 h3 h4 h5
              · exact nxCl_p7 Q M To Tr B r o X hI0 h0 h1 h2 h3 h4 h5
theorem lfOkCl_0 {l : LF} {h : LH} (Q : Option (LL × LB)) (M : LB) (To : List LB) (Tr : LB) (B : Bool) (x0 : Q = some ([], Tr)) (x1 : B = false) (st : Nat × LB × List LB) (hI : InvCl Q M To Tr B st) (hl : l.hp = some h) (hs : lfSame l h 52 keepCl (.exit 2) 3 11 23 = true) {th0 : LA} {sg0 : List (Nat × Nat)} (hth0 : ∀ X, ThOk (cx nu one 0 laidE laidE_stab) (DCl Q M To Tr B st X) th0) (h0 : startOk l h 52 11 12 th0 sg0 (epCl st) (hpCl st) = true) {thx : LA} (hthx : ThOk (ECl_0 Q M To Tr B) (cx nu one 0 laidE laidE_stab) thx) (hx : exitOk l h 52 11 23 thx [(0, .yl 10), (2, .p 7 0)] [(3, .b ⟨9, .l [.s 0 0], 0, 0, 0, false, false⟩), (4, .b ⟨24, .l [.ni], 0, 0, 0, false, false⟩), (5, .b ⟨28, .l [.nils], 0, 0, 0, false, false⟩), (6, .b ⟨9, .l [.und], 0, 0, 0, false, false⟩), (7, .b ⟨9, .l [.x 0], 0, 0, 0, false, false⟩), (8, .b ⟨9, .l [.s 1 47], 0, 0, 0, false, false⟩), (9, .b ⟨3, .l [.i .i64 (.ofNat 0)], 0, 0, 0, false, false⟩), (10, .k 5 [(2, .p 3 0), (3, .p 4 0), (4, .p 5 0), (5, .p 6 0)] 64 0 .normal)] = true) : LfOk (cx nu one 0 laidE laidE_stab) bodyCl l :=
  lfOkX (E := ECl_0 Q M To Tr B) (InvCl Q M To Tr B) (muCl Q M To Tr B) (DCl Q M To Tr B) (fun _ _ => rfl) (fun _ _ => rfl) (fun _ _ => rfl) (fun st X t ht => nuX_keep.trans (rX_keep ((by decide : ∀ t, t ∈ keepCl → t < 1000000) t ht))) rfl rfl rfl hl hs ebCl rfl rfl st hI hth0 h0 hthx hx (roundsCl_0 Q M To Tr B x0 x1)
def nuECl_1 (Q : Option (LL × LB)) (M : LB) (To : List LB) (Tr : LB) (B : Bool) : List Value := [St' Tr]
def roECl_1 (Q : Option (LL × LB)) (M : LB) (To : List LB) (Tr : LB) (B : Bool) : List Value := [rwS To]
noncomputable def ECl_1 (Q : Option (LL × LB)) (M : LB) (To : List LB) (Tr : LB) (B : Bool) : Cx := cx (nuX (nuECl_1 Q M To Tr B) (rX (roECl_1 Q M To Tr B) (fun _ => .bool true))) (nuX_one (nuL_one (l := nuECl_1 Q M To Tr B) rfl)) 0 laidE laidE_stab
theorem roundsCl_1 (Q : Option (LL × LB)) (M : LB) (To : List LB) (Tr : LB) (B : Bool) (x0 : Q = some (To, Tr)) (x1 : B = true) (st : Nat × LB × List LB) (X : Nat → Value) (hI : InvCl Q M To Tr B st) : RHCl Q M To Tr B (ECl_1 Q M To Tr B) (.exit 2) [(0, .yl 10), (2, .p 7 0)] [(3, .b ⟨9, .l [.s 0 0], 0, 0, 0, false, false⟩), (4, .b ⟨24, .l [.ni], 0, 0, 0, false, false⟩), (5, .b ⟨28, .l [.sr 11], 0, 0, 0, false, false⟩), (6, .b ⟨9, .l [.und], 0, 0, 0, false, false⟩), (7, .b ⟨9, .l [.x 0], 0, 0, 0, false, false⟩), (8, .b ⟨9, .l [.s 1 47], 0, 0, 0, false, false⟩), (9, .b ⟨3, .l [.i .i64 (.ofNat 0)], 0, 0, 0, false, false⟩), (10, .k 5 [(2, .p 3 0), (3, .p 4 0), (4, .p 5 0), (5, .p 6 0)] 64 0 .normal), (11, .r 2000000 9 1 false)] st X := by
  obtain ⟨tag, r, o⟩ := st
  have hI0 := hI
  obtain ⟨i0, i1, i2, i3, i4, i5, it⟩ := unICl Q M To Tr B tag r o hI
  rcases (show tag = 0 ∨ tag = 1 from by omega) with rfl | rfl
  · skip
    by_cases h0 : [u8 47] = r
    · exact nxCl_p6 Q M To Tr B r o X hI0 h0
    · by_cases h1 : idxB r 47 < 0
      · exfalso; rw [ap_end (by omega) i2] at x1; exact absurd x1 (by decide)
      · by_cases h2 : dcS (List.take (Int.toNat ((idxB r 47))) r) = none
        · exfalso; rw [cl_bad (by omega) (st_bad (o := o) (by assumption)).1 i0] at x0; cases x0
        · by_cases h3 : ((dcS (List.take (Int.toNat ((idxB r 47))) r)).getD []) = [u8 46, u8 46]
          · exfalso; rw [cl_bad (by omega) (st_out (o := o) (by assumption) (by assumption) (i5 rfl)).1 i0] at x0; cases x0
          · by_cases h4 : (((dcS (List.take (Int.toNat ((idxB r 47))) r)).getD []).length : Int) = 0
            · exact nxCl_p1 Q M To Tr B r o X hI0 h0 h1 h2 h3 h4
            · by_cases h5 : ((dcS (List.take (Int.toNat ((idxB r 47))) r)).getD []) = [u8 46]
              · exact nxCl_p3 Q M To Tr B r o X hI0 h0 h1 h2 h3 h4 h5
              · exact nxCl_p0 Q M To Tr B r o X hI0 h0 h1 h2 h3 h4 h5
  · skip
    by_cases h0 : [u8 47] = r
    · exact nxCl_p13 Q M To Tr B r o X hI0 h0
    · by_cases h1 : idxB r 47 < 0
      · skip
        have := ix_bd r 47
        refine lvCl_1 Q M To Tr B r o (h := hyCl_p12) rfl ?_ (thXe (v := St' r) (u := St' Tr) rfl rfl (congrArg (fun l => St' l) (ex_r (cl_end (by omega) i0) x0).2) (thXe (v := rwS o) (u := rwS To) rfl rfl (congrArg rwS (ex_r (cl_end (by omega) i0) x0).1) (thNil))) runCl_p12
        unfold hyCl_p12
        exact hc (kRn (denX rfl)) <|
         hc (kBytesB (bs := ([] : LB)) .nil (denX rfl)) <|
         hc (kEqS (isSx (l := [u8 47]) 1 47 rfl) (isX rfl) (decide_eq_false (by assumption))) <|
         hc (kExtI (n := idxB r 47) exFIx exAIx exBIx (isX rfl) (isZ (m := 47) rfl) (denX rfl) rfl) <|
         hc (ltcT rfl (by omega)) <|
         hnil
      · by_cases h2 : dcS (List.take (Int.toNat ((idxB r 47))) r) = none
        · exfalso; rw [cl_bad (by omega) (st_bad (o := o) (by assumption)).1 i0] at x0; cases x0
        · by_cases h3 : ((dcS (List.take (Int.toNat ((idxB r 47))) r)).getD []) = [u8 46, u8 46]
          · by_cases h4 : (o.length : Int) = 0
            · exfalso; rw [cl_bad (by omega) (st_out (o := o) (by assumption) (by assumption) (List.eq_nil_of_length_eq_zero (by omega))).1 i0] at x0; cases x0
            · exact nxCl_p9 Q M To Tr B r o X hI0 h0 h1 h2 h3 h4
          · by_cases h4 : (((dcS (List.take (Int.toNat ((idxB r 47))) r)).getD []).length : Int) = 0
            · exact nxCl_p8 Q M To Tr B r o X hI0 h0 h1 h2 h3 h4
            · by_cases h5 : ((dcS (List.take (Int.toNat ((idxB r 47))) r)).getD []) = [u8 46]
              · exact nxCl_p10 Q M To Tr B r o X hI0 h0 h1 h2 h3 h4 h5
              · exact nxCl_p7 Q M To Tr B r o X hI0 h0 h1 h2 h3 h4 h5
theorem lfOkCl_1 {l : LF} {h : LH} (Q : Option (LL × LB)) (M : LB) (To : List LB) (Tr : LB) (B : Bool) (x0 : Q = some (To, Tr)) (x1 : B = true) (st : Nat × LB × List LB) (hI : InvCl Q M To Tr B st) (hl : l.hp = some h) (hs : lfSame l h 52 keepCl (.exit 2) 3 11 23 = true) {th0 : LA} {sg0 : List (Nat × Nat)} (hth0 : ∀ X, ThOk (cx nu one 0 laidE laidE_stab) (DCl Q M To Tr B st X) th0) (h0 : startOk l h 52 11 12 th0 sg0 (epCl st) (hpCl st) = true) {thx : LA} (hthx : ThOk (ECl_1 Q M To Tr B) (cx nu one 0 laidE laidE_stab) thx) (hx : exitOk l h 52 11 23 thx [(0, .yl 10), (2, .p 7 0)] [(3, .b ⟨9, .l [.s 0 0], 0, 0, 0, false, false⟩), (4, .b ⟨24, .l [.ni], 0, 0, 0, false, false⟩), (5, .b ⟨28, .l [.sr 11], 0, 0, 0, false, false⟩), (6, .b ⟨9, .l [.und], 0, 0, 0, false, false⟩), (7, .b ⟨9, .l [.x 0], 0, 0, 0, false, false⟩), (8, .b ⟨9, .l [.s 1 47], 0, 0, 0, false, false⟩), (9, .b ⟨3, .l [.i .i64 (.ofNat 0)], 0, 0, 0, false, false⟩), (10, .k 5 [(2, .p 3 0), (3, .p 4 0), (4, .p 5 0), (5, .p 6 0)] 64 0 .normal), (11, .r 2000000 9 1 false)] = true) : LfOk (cx nu one 0 laidE laidE_stab) bodyCl l :=
  lfOkX (E := ECl_1 Q M To Tr B) (InvCl Q M To Tr B) (muCl Q M To Tr B) (DCl Q M To Tr B) (fun _ _ => rfl) (fun _ _ => rfl) (fun _ _ => rfl) (fun st X t ht => nuX_keep.trans (rX_keep ((by decide : ∀ t, t ∈ keepCl → t < 1000000) t ht))) rfl rfl rfl hl hs ebCl rfl rfl st hI hth0 h0 hthx hx (roundsCl_1 Q M To Tr B x0 x1)
def nuECl_2 (Q : Option (LL × LB)) (M : LB) (To : List LB) (Tr : LB) (B : Bool) : List Value := [St' M]
def roECl_2 (Q : Option (LL × LB)) (M : LB) (To : List LB) (Tr : LB) (B : Bool) : List Value := []
noncomputable def ECl_2 (Q : Option (LL × LB)) (M : LB) (To : List LB) (Tr : LB) (B : Bool) : Cx := cx (nuX (nuECl_2 Q M To Tr B) (rX (roECl_2 Q M To Tr B) (fun _ => .bool true))) (nuX_one (nuL_one (l := nuECl_2 Q M To Tr B) rfl)) 0 laidE laidE_stab
theorem roundsCl_2 (Q : Option (LL × LB)) (M : LB) (To : List LB) (Tr : LB) (B : Bool) (x0 : Q = none) (st : Nat × LB × List LB) (X : Nat → Value) (hI : InvCl Q M To Tr B st) : RHCl Q M To Tr B (ECl_2 Q M To Tr B) .ret [] [(3, .b ⟨9, .l [.s 0 0], 0, 0, 0, false, false⟩), (4, .b ⟨24, .l [.ifc 48 (.ag [.i .i64 (.ofNat 10), .x 0])], 0, 0, 0, false, false⟩), (10, .k 5 [(2, .p 3 0), (3, .p 4 0), (4, .p 5 0), (5, .p 6 0)] 64 2 .ret)] st X := by
  obtain ⟨tag, r, o⟩ := st
  have hI0 := hI
  obtain ⟨i0, i1, i2, i3, i4, i5, it⟩ := unICl Q M To Tr B tag r o hI
  rcases (show tag = 0 ∨ tag = 1 from by omega) with rfl | rfl
  · skip
    by_cases h0 : [u8 47] = r
    · exact nxCl_p6 Q M To Tr B r o X hI0 h0
    · by_cases h1 : idxB r 47 < 0
      · exfalso; rw [cl_end (by omega) i0] at x0; cases x0
      · by_cases h2 : dcS (List.take (Int.toNat ((idxB r 47))) r) = none
        · skip
          have := ix_bd r 47
          have := lenTake (l := r) (Q := (idxB r 47)) (by omega) (by omega)
          have := dcS_len (List.take (Int.toNat ((idxB r 47))) r)
          refine lvCl_0 Q M To Tr B r o (h := hyCl_p4) rfl ?_ (thXe (v := St' (dcM (List.take (Int.toNat ((idxB r 47))) r))) (u := St' M) rfl rfl (congrArg (fun l => St' l) (show (dcM (List.take (Int.toNat ((idxB r 47))) r)) = M from by rw [← (st_bad (o := o) (by assumption)).2]; exact ce_bad (by omega) (st_bad (o := o) (by assumption)).1 i1)) (thNil)) runCl_p4
          unfold hyCl_p4
          exact hc (kRn (denX rfl)) <|
           hc (kBytesB (bs := ([] : LB)) .nil (denX rfl)) <|
           hc (kEqS (isSx (l := [u8 47]) 1 47 rfl) (isX rfl) (decide_eq_false (by assumption))) <|
           hc (kExtI (n := idxB r 47) exFIx exAIx exBIx (isX rfl) (isZ (m := 47) rfl) (denX rfl) rfl) <|
           hc (ltcF rfl (by omega)) <|
           hc (adC rfl rfl (by omega)) <|
           hc (tkV rfl rfl rfl (by omega)) <|
           hc (hokDec (s := (List.take (Int.toNat ((idxB r 47))) r)) (isX rfl) (by rw [if_pos (by assumption)]; exact denT2 denS0 (denIfc (denA2 (denI .i64 10) (denX rfl)))) (by omega) (by omega)) <|
           hnil
        · by_cases h3 : ((dcS (List.take (Int.toNat ((idxB r 47))) r)).getD []) = [u8 46, u8 46]
          · skip
            have := ix_bd r 47
            have := lenTake (l := r) (Q := (idxB r 47)) (by omega) (by omega)
            have := dcS_len (List.take (Int.toNat ((idxB r 47))) r)
            obtain ⟨hdd1, hdd2⟩ := dd_f (t := ((dcS (List.take (Int.toNat ((idxB r 47))) r)).getD [])) (by assumption)
            refine lvCl_0 Q M To Tr B r o (h := hyCl_p2) rfl ?_ (thCons (show Is _ (.s 21 170204620060147215156831070085407667714849644748897) (St' M) from isTo (v := St' ([u8 97, u8 32, u8 112, u8 97, u8 116, u8 104, u8 32, u8 116, u8 104, u8 97, u8 116, u8 32, u8 108, u8 101, u8 97, u8 100, u8 115, u8 32, u8 111, u8 117, u8 116])) (isSx (l := [u8 97, u8 32, u8 112, u8 97, u8 116, u8 104, u8 32, u8 116, u8 104, u8 97, u8 116, u8 32, u8 108, u8 101, u8 97, u8 100, u8 115, u8 32, u8 111, u8 117, u8 116]) 21 170204620060147215156831070085407667714849644748897 rfl) (congrArg (fun l => St' l) (show mOut = M from by rw [← (st_out (o := o) (by assumption) (by assumption) (i5 rfl)).2]; exact ce_bad (by omega) (st_out (o := o) (by assumption) (by assumption) (i5 rfl)).1 i1))) (thNil)) runCl_p2
            unfold hyCl_p2
            exact hc (kRn (denX rfl)) <|
             hc (kBytesB (bs := ([] : LB)) .nil (denX rfl)) <|
             hc (kEqS (isSx (l := [u8 47]) 1 47 rfl) (isX rfl) (decide_eq_false (by assumption))) <|
             hc (kExtI (n := idxB r 47) exFIx exAIx exBIx (isX rfl) (isZ (m := 47) rfl) (denX rfl) rfl) <|
             hc (ltcF rfl (by omega)) <|
             hc (adC rfl rfl (by omega)) <|
             hc (tkV rfl rfl rfl (by omega)) <|
             hc (hokDec (s := (List.take (Int.toNat ((idxB r 47))) r)) (isX rfl) (by rw [if_neg (by assumption)]; exact denT2 (denX rfl) denNi) (by omega) (by omega)) <|
             hc (kEqS (isX rfl) (isSx (l := [u8 46, u8 46]) 2 11822 rfl) (decide_eq_true (by assumption))) <|
             hnil
          · by_cases h4 : (((dcS (List.take (Int.toNat ((idxB r 47))) r)).getD []).length : Int) = 0
            · exact nxCl_p1 Q M To Tr B r o X hI0 h0 h1 h2 h3 h4
            · by_cases h5 : ((dcS (List.take (Int.toNat ((idxB r 47))) r)).getD []) = [u8 46]
              · exact nxCl_p3 Q M To Tr B r o X hI0 h0 h1 h2 h3 h4 h5
              · exact nxCl_p0 Q M To Tr B r o X hI0 h0 h1 h2 h3 h4 h5
  · skip
    by_cases h0 : [u8 47] = r
    · exact nxCl_p13 Q M To Tr B r o X hI0 h0
    · by_cases h1 : idxB r 47 < 0
      · exfalso; rw [cl_end (by omega) i0] at x0; cases x0
      · by_cases h2 : dcS (List.take (Int.toNat ((idxB r 47))) r) = none
        · skip
          have := ix_bd r 47
          have := lenTake (l := r) (Q := (idxB r 47)) (by omega) (by omega)
          have := dcS_len (List.take (Int.toNat ((idxB r 47))) r)
          refine lvCl_1 Q M To Tr B r o (h := hyCl_p11) rfl ?_ (thXe (v := St' (dcM (List.take (Int.toNat ((idxB r 47))) r))) (u := St' M) rfl rfl (congrArg (fun l => St' l) (show (dcM (List.take (Int.toNat ((idxB r 47))) r)) = M from by rw [← (st_bad (o := o) (by assumption)).2]; exact ce_bad (by omega) (st_bad (o := o) (by assumption)).1 i1)) (thNil)) runCl_p11
          unfold hyCl_p11
          exact hc (kRn (denX rfl)) <|
           hc (kBytesB (bs := ([] : LB)) .nil (denX rfl)) <|
           hc (kEqS (isSx (l := [u8 47]) 1 47 rfl) (isX rfl) (decide_eq_false (by assumption))) <|
           hc (kExtI (n := idxB r 47) exFIx exAIx exBIx (isX rfl) (isZ (m := 47) rfl) (denX rfl) rfl) <|
           hc (ltcF rfl (by omega)) <|
           hc (adC rfl rfl (by omega)) <|
           hc (tkV rfl rfl rfl (by omega)) <|
           hc (hokDec (s := (List.take (Int.toNat ((idxB r 47))) r)) (isX rfl) (by rw [if_pos (by assumption)]; exact denT2 denS0 (denIfc (denA2 (denI .i64 10) (denX rfl)))) (by omega) (by omega)) <|
           hnil
        · by_cases h3 : ((dcS (List.take (Int.toNat ((idxB r 47))) r)).getD []) = [u8 46, u8 46]
          · by_cases h4 : (o.length : Int) = 0
            · skip
              have := ix_bd r 47
              have := lenTake (l := r) (Q := (idxB r 47)) (by omega) (by omega)
              have := dcS_len (List.take (Int.toNat ((idxB r 47))) r)
              obtain ⟨hdd1, hdd2⟩ := dd_f (t := ((dcS (List.take (Int.toNat ((idxB r 47))) r)).getD [])) (by assumption)
              refine lvCl_1 Q M To Tr B r o (h := hyCl_p14) rfl ?_ (thCons (show Is _ (.s 21 170204620060147215156831070085407667714849644748897) (St' M) from isTo (v := St' ([u8 97, u8 32, u8 112, u8 97, u8 116, u8 104, u8 32, u8 116, u8 104, u8 97, u8 116, u8 32, u8 108, u8 101, u8 97, u8 100, u8 115, u8 32, u8 111, u8 117, u8 116])) (isSx (l := [u8 97, u8 32, u8 112, u8 97, u8 116, u8 104, u8 32, u8 116, u8 104, u8 97, u8 116, u8 32, u8 108, u8 101, u8 97, u8 100, u8 115, u8 32, u8 111, u8 117, u8 116]) 21 170204620060147215156831070085407667714849644748897 rfl) (congrArg (fun l => St' l) (show mOut = M from by rw [← (st_out (o := o) (by assumption) (by assumption) (List.eq_nil_of_length_eq_zero (by omega))).2]; exact ce_bad (by omega) (st_out (o := o) (by assumption) (by assumption) (List.eq_nil_of_length_eq_zero (by omega))).1 i1))) (thNil)) runCl_p14
              unfold hyCl_p14
              exact hc (kRn (denX rfl)) <|
               hc (kBytesB (bs := ([] : LB)) .nil (denX rfl)) <|
               hc (kEqS (isSx (l := [u8 47]) 1 47 rfl) (isX rfl) (decide_eq_false (by assumption))) <|
               hc (kExtI (n := idxB r 47) exFIx exAIx exBIx (isX rfl) (isZ (m := 47) rfl) (denX rfl) rfl) <|
               hc (ltcF rfl (by omega)) <|
               hc (adC rfl rfl (by omega)) <|
               hc (tkV rfl rfl rfl (by omega)) <|
               hc (hokDec (s := (List.take (Int.toNat ((idxB r 47))) r)) (isX rfl) (by rw [if_neg (by assumption)]; exact denT2 (denX rfl) denNi) (by omega) (by omega)) <|
               hc (kEqS (isX rfl) (isSx (l := [u8 46, u8 46]) 2 11822 rfl) (decide_eq_true (by assumption))) <|
               hc (kRl (isX rfl) (denX rfl) (by first | omega | (simp <;> omega))) <|
               hc (eqcT rfl (by omega)) <|
               hnil
            · exact nxCl_p9 Q M To Tr B r o X hI0 h0 h1 h2 h3 h4
          · by_cases h4 : (((dcS (List.take (Int.toNat ((idxB r 47))) r)).getD []).length : Int) = 0
            · exact nxCl_p8 Q M To Tr B r o X hI0 h0 h1 h2 h3 h4
            · by_cases h5 : ((dcS (List.take (Int.toNat ((idxB r 47))) r)).getD []) = [u8 46]
              · exact nxCl_p10 Q M To Tr B r o X hI0 h0 h1 h2 h3 h4 h5
              · exact nxCl_p7 Q M To Tr B r o X hI0 h0 h1 h2 h3 h4 h5
theorem lfOkCl_2 {l : LF} {h : LH} (Q : Option (LL × LB)) (M : LB) (To : List LB) (Tr : LB) (B : Bool) (x0 : Q = none) (st : Nat × LB × List LB) (hI : InvCl Q M To Tr B st) (hl : l.hp = some h) (hs : lfSame l h 52 keepCl .ret 3 11 23 = true) {th0 : LA} {sg0 : List (Nat × Nat)} (hth0 : ∀ X, ThOk (cx nu one 0 laidE laidE_stab) (DCl Q M To Tr B st X) th0) (h0 : startOk l h 52 11 12 th0 sg0 (epCl st) (hpCl st) = true) {thx : LA} (hthx : ThOk (ECl_2 Q M To Tr B) (cx nu one 0 laidE laidE_stab) thx) (hx : exitOk l h 52 11 23 thx [] [(3, .b ⟨9, .l [.s 0 0], 0, 0, 0, false, false⟩), (4, .b ⟨24, .l [.ifc 48 (.ag [.i .i64 (.ofNat 10), .x 0])], 0, 0, 0, false, false⟩), (10, .k 5 [(2, .p 3 0), (3, .p 4 0), (4, .p 5 0), (5, .p 6 0)] 64 2 .ret)] = true) : LfOk (cx nu one 0 laidE laidE_stab) bodyCl l :=
  lfOkX (E := ECl_2 Q M To Tr B) (InvCl Q M To Tr B) (muCl Q M To Tr B) (DCl Q M To Tr B) (fun _ _ => rfl) (fun _ _ => rfl) (fun _ _ => rfl) (fun st X t ht => nuX_keep.trans (rX_keep ((by decide : ∀ t, t ∈ keepCl → t < 1000000) t ht))) rfl rfl rfl hl hs ebCl rfl rfl st hI hth0 h0 hthx hx (roundsCl_2 Q M To Tr B x0)
end Go.Proofs.YtipdlfkjablekaaDoor.pathBack
