/- A part of the proof: an interpreter of the model's own code on partly known states, and that what it answers is what the program answers. No condition of its own. -/
import Derived.Test.YtbipkiiaajklhaaDoorS1PathTellsO3
set_option maxRecDepth 100000
set_option linter.unusedVariables false
set_option linter.unusedSimpArgs false
set_option maxHeartbeats 4000000
namespace Go.Proofs.YtbipkiiaajklhaaDoor.pathTells
open Go Go.AX Go.Proofs Go.Proofs.YtbipkiiaajklhaaDoor
variable {nu : Nat → Value} {one : ∀ i, i < 1000000 → (nu i).oneCell' = true} {E' : Cx} {x' : Ex} {e' : LA} {h' : LE}
noncomputable def cA3 : Code := aL8 (Tryd.f37.body.getD .skip) 1
theorem bL2 : aK6 (aC0 (Tryd.f37.body.getD .skip)) 5 1 0 = true := by kernel_rfl
def aS3 : List Nat := []
def eL0 : LA := [(0, .yl 11), (1, .p 9 0), (2, .p 8 0), (3, .p 10 0), (9, .s 1 47)]
def eJ4 : LE := [(4, bk 9 [.s 0 0]), (5, bk 24 [.ni]), (6, bk 31 [.nils]), (7, bk 9 [.und]), (8, bk 9 [.x 0]), (9, bk 9 [.s 1 47]), (10, bk 3 [I6 0]), (11, .k 5 [(2, .p 4 0), (3, .p 5 0), (4, .p 6 0), (5, .p 7 0)] 64 0 .normal)]
def aZ0 (Q : Option (LL × LB)) (M : LB) (To : List LB) (Tr : LB) (B : Bool) (r : LB) (o : List LB) : List Value := [St' r, St' ([] : LB), .int .i64 (idxB r 47), .int .i64 ((idxB r 47)), St' (fK r), St' (gS (fK r)), .int .i64 ((idxB r 47) + 1), St' (List.drop (Int.toNat ((idxB r 47) + 1)) r), St' ([] : LB), .int .i64 (idxB r 47), .int .i64 ((idxB r 47)), St' (fK r), St' (gS (fK r)), .int .i64 ((idxB r 47) + 1), St' (List.drop (Int.toNat ((idxB r 47) + 1)) r), St' ([] : LB), .int .i64 (idxB r 47), .int .i64 ((idxB r 47)), St' (fK r), St' (gS (fK r)), St' ([] : LB), .int .i64 (idxB r 47), .int .i64 ((idxB r 47)), St' (fK r), St' (dcM (fK r)), St' ([] : LB), .int .i64 (idxB r 47)]
def cO0 (Q : Option (LL × LB)) (M : LB) (To : List LB) (Tr : LB) (B : Bool) (r : LB) (o : List LB) : List Value := [rwS ([] : List LB), rwS (([] : List LB) ++ [(gS (fK r))]), rwS ([] : List LB), rwS ([] : List LB), rwS ([] : List LB), rwS ([] : List LB)]
def bZ7 : LA := [(0, .yl 11), (1, .p 9 0), (2, .p 8 0), (3, .p 10 0), (9, .s 1 47)]
def bY9 : LE := [(4, bk 9 [.s 0 0]), (5, bk 24 [.ni]), (6, bk 31 [.sr 12]), (7, bk 9 [.und]), (8, bk 9 [.x 0]), (9, bk 9 [.s 1 47]), (10, bk 3 [I6 0]), (11, .k 5 [(2, .p 4 0), (3, .p 5 0), (4, .p 6 0), (5, .p 7 0)] 64 0 .normal), (12, .r 2000000 9 1 false)]
def aY9 (Q : Option (LL × LB)) (M : LB) (To : List LB) (Tr : LB) (B : Bool) (r : LB) (o : List LB) : List Value := [St' r, St' ([] : LB), .int .i64 (idxB r 47), .int .i64 ((idxB r 47)), St' (fK r), St' (gS (fK r)), .int .i64 ((idxB r 47) + 1), St' (List.drop (Int.toNat ((idxB r 47) + 1)) r), St' ([] : LB), .int .i64 (idxB r 47), .int .i64 ((idxB r 47)), St' (fK r), St' (gS (fK r)), .int .i64 ((idxB r 47) + 1), St' (List.drop (Int.toNat ((idxB r 47) + 1)) r), St' ([] : LB), .int .i64 (idxB r 47), .int .i64 ((idxB r 47)), St' (fK r), St' (gS (fK r)), .int .i64 ((o.length : Int)), .int .i64 ((o.length : Int) - 1), .int .i64 ((idxB r 47) + 1), St' (List.drop (Int.toNat ((idxB r 47) + 1)) r), St' ([] : LB), .int .i64 (idxB r 47), .int .i64 ((idxB r 47)), St' (fK r), St' (dcM (fK r)), St' ([] : LB), .int .i64 (idxB r 47), St' ([] : LB), .int .i64 (idxB r 47), .int .i64 ((idxB r 47)), St' (fK r), St' (gS (fK r)), .int .i64 ((o.length : Int))]
def cN9 (Q : Option (LL × LB)) (M : LB) (To : List LB) (Tr : LB) (B : Bool) (r : LB) (o : List LB) : List Value := [rwS o, rwS ([] : List LB), rwS (o ++ [(gS (fK r))]), rwS ([] : List LB), rwS ([] : List LB), rwS (o.take (Int.toNat ((o.length : Int) - 1))), rwS ([] : List LB), rwS ([] : List LB), rwS ([] : List LB)]
def epCl (st : Nat × LB × List LB) : LA := if st.1 = 0 then eL0 else bZ7
def hpCl (st : Nat × LB × List LB) : LE := if st.1 = 0 then eJ4 else bY9
def nuCl (Q : Option (LL × LB)) (M : LB) (To : List LB) (Tr : LB) (B : Bool) (st : Nat × LB × List LB) : List Value := if st.1 = 0 then aZ0 Q M To Tr B (st.2.1) (st.2.2) else aY9 Q M To Tr B (st.2.1) (st.2.2)
def roCl (Q : Option (LL × LB)) (M : LB) (To : List LB) (Tr : LB) (B : Bool) (st : Nat × LB × List LB) : List Value := if st.1 = 0 then cO0 Q M To Tr B (st.2.1) (st.2.2) else cN9 Q M To Tr B (st.2.1) (st.2.2)
theorem onCl (Q : Option (LL × LB)) (M : LB) (To : List LB) (Tr : LB) (B : Bool) (st : Nat × LB × List LB) : ∀ j, (nuL (nuCl Q M To Tr B st) j).oneCell' = true := by
  intro j
  unfold nuCl
  by_cases g0 : st.1 = 0
  · rw [if_pos g0]; exact aA2 (l := aZ0 Q M To Tr B (st.2.1) (st.2.2)) rfl j
  rw [if_neg g0]
  exact aA2 (l := aY9 Q M To Tr B (st.2.1) (st.2.2)) rfl j
theorem ebCl (st : Nat × LB × List LB) : (lfB (epCl st) && lfC aS3) = true := by
  unfold epCl
  by_cases g0 : st.1 = 0
  · rw [if_pos g0]; rfl
  rw [if_neg g0]
  rfl
noncomputable def DCl (Q : Option (LL × LB)) (M : LB) (To : List LB) (Tr : LB) (B : Bool) (st : Nat × LB × List LB) (X : Nat → Value) : Cx := cx (nuX (nuCl Q M To Tr B st) (rX (roCl Q M To Tr B st) X)) (aA4 (onCl Q M To Tr B st)) 1 aA3 aA0
def aR7 (Q : Option (LL × LB)) (M : LB) (To : List LB) (Tr : LB) (B : Bool) (st : Nat × LB × List LB) : Prop := (clL unS (sp47 [] (st.2.1)) (st.2.2) = Q) ∧ (clE unS stM (sp47 [] (st.2.1)) (st.2.2) = M) ∧ ((decide ((st.1) = 1) || apL unS (sp47 [] (st.2.1))) = B) ∧ ((st.2.1).length ≤ 1000000) ∧ ((st.2.2).length + (st.2.1).length ≤ 1000000) ∧ ((st.1) = 0 → (st.2.2) = []) ∧ ((st.1) < 2)
abbrev CjCl (Q : Option (LL × LB)) (M : LB) (To : List LB) (Tr : LB) (B : Bool) (tag : Nat) (r : LB) (o : List LB) : Prop := (clL unS (sp47 [] r) o = Q) ∧ (clE unS stM (sp47 [] r) o = M) ∧ ((decide (tag = 1) || apL unS (sp47 [] r)) = B) ∧ (r.length ≤ 1000000) ∧ (o.length + r.length ≤ 1000000) ∧ (tag = 0 → o = []) ∧ (tag < 2)
theorem aU1 {Q : Option (LL × LB)} {M : LB} {To : List LB} {Tr : LB} {B : Bool} {tag : Nat} {r : LB} {o : List LB} (h : CjCl Q M To Tr B tag r o) : aR7 Q M To Tr B (tag, r, o) := h
theorem cL5 (Q : Option (LL × LB)) (M : LB) (To : List LB) (Tr : LB) (B : Bool) (tag : Nat) (r : LB) (o : List LB) (h : aR7 Q M To Tr B (tag, r, o)) : (clL unS (sp47 [] r) o = Q) ∧ (clE unS stM (sp47 [] r) o = M) ∧ ((decide (tag = 1) || apL unS (sp47 [] r)) = B) ∧ (r.length ≤ 1000000) ∧ (o.length + r.length ≤ 1000000) ∧ (tag = 0 → o = []) ∧ (tag < 2) := h
def muCl (Q : Option (LL × LB)) (M : LB) (To : List LB) (Tr : LB) (B : Bool) (st : Nat × LB × List LB) : Nat := (st.2.1).length
abbrev RHCl (Q : Option (LL × LB)) (M : LB) (To : List LB) (Tr : LB) (B : Bool) (E' : Cx) (ex' : Ex) (epx' : LA) (hpx' : LE) (st : Nat × LB × List LB) (X : Nat → Value) : Prop := aC3 E' cA3 aS3 52 ex' 4 12 13 24 epCl hpCl epx' hpx' (aR7 Q M To Tr B) (muCl Q M To Tr B) (DCl Q M To Tr B) st X
noncomputable abbrev bU0 (h : LK) (x : Ex) (th : LA) (sg : List (Nat × Nat)) (m : Nat) (ep : LA) (hp : LE) : Bool := aL4 (code (tbl h) 3000 [] cA3 (aH4 (aE4 eL0 aS3) 52) ⟨aD1 eJ4 .leaf, 13, 0, 0⟩) x aS3 52 24 th sg 12 m ep hp
theorem stCl_0 {Q : Option (LL × LB)} {M : LB} {To : List LB} {Tr : LB} {B : Bool} {r : LB} {o : List LB} {X : Nat → Value} {h : LK} (y : Nat × LB × List LB) {th : LA} {sg : List (Nat × Nat)} (ho : ∀ a' r', (a', r') ∈ h → HOk (cx (nuX (aZ0 Q M To Tr B r o) (rX (cO0 Q M To Tr B r o) X)) (aA4 (aA2 (l := aZ0 Q M To Tr B r o) rfl)) 1 aA3 aA0) a' r') (hy : aR7 Q M To Tr B y) (lt : muCl Q M To Tr B y < muCl Q M To Tr B (0, r, o)) (ht : ThOk (cx (nuX (aZ0 Q M To Tr B r o) (rX (cO0 Q M To Tr B r o) X)) (aA4 (aA2 (l := aZ0 Q M To Tr B r o) rfl)) 1 aA3 aA0) (DCl Q M To Tr B y X) th) (run : bU0 h .normal th sg 13 (epCl y) (hpCl y) = true) : RHCl Q M To Tr B E' x' e' h' (0, r, o) X :=
  aC3.next (tb := tbl h) (L := []) (f := 3000) y ((aB0 _ _).hyps ho) (LpOk.nil _) rfl hy lt ht run
theorem eI1 {Q : Option (LL × LB)} {M : LB} {To : List LB} {Tr : LB} {B : Bool} {r : LB} {o : List LB} {X : Nat → Value} {h : LK} {th : LA} {sg : List (Nat × Nat)} (hne : exB x' .normal = false) (ho : ∀ a' r', (a', r') ∈ h → HOk (cx (nuX (aZ0 Q M To Tr B r o) (rX (cO0 Q M To Tr B r o) X)) (aA4 (aA2 (l := aZ0 Q M To Tr B r o) rfl)) 1 aA3 aA0) a' r') (ht : ThOk (cx (nuX (aZ0 Q M To Tr B r o) (rX (cO0 Q M To Tr B r o) X)) (aA4 (aA2 (l := aZ0 Q M To Tr B r o) rfl)) 1 aA3 aA0) E' th) (run : bU0 h x' th sg 24 e' h' = true) : RHCl Q M To Tr B E' x' e' h' (0, r, o) X :=
  aC3.leave (tb := tbl h) (L := []) (f := 3000) ((aB0 _ _).hyps ho) (LpOk.nil _) rfl hne ht run
noncomputable abbrev bK8 (h : LK) (x : Ex) (th : LA) (sg : List (Nat × Nat)) (m : Nat) (ep : LA) (hp : LE) : Bool := aL4 (code (tbl h) 3000 [] cA3 (aH4 (aE4 bZ7 aS3) 52) ⟨aD1 bY9 .leaf, 13, 0, 0⟩) x aS3 52 24 th sg 12 m ep hp
theorem dX2 {Q : Option (LL × LB)} {M : LB} {To : List LB} {Tr : LB} {B : Bool} {r : LB} {o : List LB} {X : Nat → Value} {h : LK} (y : Nat × LB × List LB) {th : LA} {sg : List (Nat × Nat)} (ho : ∀ a' r', (a', r') ∈ h → HOk (cx (nuX (aY9 Q M To Tr B r o) (rX (cN9 Q M To Tr B r o) X)) (aA4 (aA2 (l := aY9 Q M To Tr B r o) rfl)) 1 aA3 aA0) a' r') (hy : aR7 Q M To Tr B y) (lt : muCl Q M To Tr B y < muCl Q M To Tr B (1, r, o)) (ht : ThOk (cx (nuX (aY9 Q M To Tr B r o) (rX (cN9 Q M To Tr B r o) X)) (aA4 (aA2 (l := aY9 Q M To Tr B r o) rfl)) 1 aA3 aA0) (DCl Q M To Tr B y X) th) (run : bK8 h .normal th sg 13 (epCl y) (hpCl y) = true) : RHCl Q M To Tr B E' x' e' h' (1, r, o) X :=
  aC3.next (tb := tbl h) (L := []) (f := 3000) y ((aB0 _ _).hyps ho) (LpOk.nil _) rfl hy lt ht run
theorem eI0 {Q : Option (LL × LB)} {M : LB} {To : List LB} {Tr : LB} {B : Bool} {r : LB} {o : List LB} {X : Nat → Value} {h : LK} {th : LA} {sg : List (Nat × Nat)} (hne : exB x' .normal = false) (ho : ∀ a' r', (a', r') ∈ h → HOk (cx (nuX (aY9 Q M To Tr B r o) (rX (cN9 Q M To Tr B r o) X)) (aA4 (aA2 (l := aY9 Q M To Tr B r o) rfl)) 1 aA3 aA0) a' r') (ht : ThOk (cx (nuX (aY9 Q M To Tr B r o) (rX (cN9 Q M To Tr B r o) X)) (aA4 (aA2 (l := aY9 Q M To Tr B r o) rfl)) 1 aA3 aA0) E' th) (run : bK8 h x' th sg 24 e' h' = true) : RHCl Q M To Tr B E' x' e' h' (1, r, o) X :=
  aC3.leave (tb := tbl h) (L := []) (f := 3000) ((aB0 _ _).hyps ho) (LpOk.nil _) rfl hne ht run
def dH3 : LK := [(.rn, .x 2000000), (.call 39 [.x 0, .s 1 47], .x 2), (.bin .lss (.x 2) (I6 0), .b false), (.bin .add (.x 2) (I6 0), .x 3), (.sub (.x 0) none (some (.x 3)), .x 4), (.call 17 [.x 4], .tu [.x 5, .ni]), (.bin .eql (.x 5) (.s 2 11822), .b false), (.call 18 [.x 5], .b false), (.ra (.x 2000000) [.x 5], .x 2000001), (.rf (.x 2000001) 1 16, .b true), (.bin .add (.x 2) (I6 1), .x 6), (.sub (.x 0) (some (.x 6)) none, .x 7)]
theorem runCl_p0 : bU0 dH3 .normal [(0, .x 7), (2000000, .x 2000001)] [(12, 14)] 13 bZ7 bY9 = true := by kernel_rfl
def dH2 : LK := [(.call 39 [.x 0, .s 1 47], .x 9), (.bin .lss (.x 9) (I6 0), .b false), (.bin .add (.x 9) (I6 0), .x 10), (.sub (.x 0) none (some (.x 10)), .x 11), (.call 17 [.x 11], .tu [.x 12, .ni]), (.bin .eql (.x 12) (.s 2 11822), .b false), (.call 18 [.x 12], .b true), (.bin .add (.x 9) (I6 1), .x 13), (.sub (.x 0) (some (.x 13)) none, .x 14)]
theorem runCl_p1 : bU0 dH2 .normal [(0, .x 14)] [] 13 eL0 eJ4 = true := by kernel_rfl
def dH1 : LK := [(.call 39 [.x 0, .s 1 47], .x 16), (.bin .lss (.x 16) (I6 0), .b false), (.bin .add (.x 16) (I6 0), .x 17), (.sub (.x 0) none (some (.x 17)), .x 18), (.call 17 [.x 18], .tu [.x 19, .ni]), (.bin .eql (.x 19) (.s 2 11822), .b true)]
theorem runCl_p2 : bU0 dH1 .ret [(0, .s 21 170204620060147215156831070085407667714849644748897)] [] 24 [] [(4, bk 9 [.s 0 0]), (5, bk 24 [.ifc 51 (.ag [I6 10, .x 0])]), (11, .k 5 [(2, .p 4 0), (3, .p 5 0), (4, .p 6 0), (5, .p 7 0)] 64 2 .ret)] = true := by kernel_rfl
def dH0 : LK := [(.call 39 [.x 0, .s 1 47], .x 21), (.bin .lss (.x 21) (I6 0), .b false), (.bin .add (.x 21) (I6 0), .x 22), (.sub (.x 0) none (some (.x 22)), .x 23), (.call 17 [.x 23], .tu [.s 0 0, .ifc 51 (.ag [I6 10, .x 24])])]
theorem runCl_p3 : bU0 dH0 .ret [(0, .x 24)] [] 24 [] [(4, bk 9 [.s 0 0]), (5, bk 24 [.ifc 51 (.ag [I6 10, .x 0])]), (11, .k 5 [(2, .p 4 0), (3, .p 5 0), (4, .p 6 0), (5, .p 7 0)] 64 2 .ret)] = true := by kernel_rfl
def dG9 : LK := [(.call 39 [.x 0, .s 1 47], .x 26), (.bin .lss (.x 26) (I6 0), .b true)]
theorem runCl_p4 : bU0 dG9 (.exit 2) [(0, .x 0)] [] 24 [(0, .yl 11), (2, .p 8 0)] [(4, bk 9 [.s 0 0]), (5, bk 24 [.ni]), (6, bk 31 [.nils]), (7, bk 9 [.und]), (8, bk 9 [.x 0]), (9, bk 9 [.s 1 47]), (10, bk 3 [I6 0]), (11, .k 5 [(2, .p 4 0), (3, .p 5 0), (4, .p 6 0), (5, .p 7 0)] 64 0 .normal)] = true := by kernel_rfl
def dG8 : LK := [(.call 39 [.x 0, .s 1 47], .x 2), (.bin .lss (.x 2) (I6 0), .b false), (.bin .add (.x 2) (I6 0), .x 3), (.sub (.x 0) none (some (.x 3)), .x 4), (.call 17 [.x 4], .tu [.x 5, .ni]), (.bin .eql (.x 5) (.s 2 11822), .b false), (.call 18 [.x 5], .b false), (.ra (.x 2000000) [.x 5], .x 2000002), (.rf (.x 2000002) 1 16, .b true), (.bin .add (.x 2) (I6 1), .x 6), (.sub (.x 0) (some (.x 6)) none, .x 7)]
theorem runCl_p5 : bK8 dG8 .normal [(0, .x 7), (2000000, .x 2000002)] [(12, 14)] 13 bZ7 bY9 = true := by kernel_rfl
def dG7 : LK := [(.call 39 [.x 0, .s 1 47], .x 9), (.bin .lss (.x 9) (I6 0), .b false), (.bin .add (.x 9) (I6 0), .x 10), (.sub (.x 0) none (some (.x 10)), .x 11), (.call 17 [.x 11], .tu [.x 12, .ni]), (.bin .eql (.x 12) (.s 2 11822), .b false), (.call 18 [.x 12], .b true), (.bin .add (.x 9) (I6 1), .x 13), (.sub (.x 0) (some (.x 13)) none, .x 14)]
theorem runCl_p6 : bK8 dG7 .normal [(0, .x 14), (2000000, .x 2000000)] [(12, 12)] 13 bZ7 bY9 = true := by kernel_rfl
def dG6 : LK := [(.call 39 [.x 0, .s 1 47], .x 16), (.bin .lss (.x 16) (I6 0), .b false), (.bin .add (.x 16) (I6 0), .x 17), (.sub (.x 0) none (some (.x 17)), .x 18), (.call 17 [.x 18], .tu [.x 19, .ni]), (.bin .eql (.x 19) (.s 2 11822), .b true), (.rl (.x 2000000) 1, .x 20), (.bin .eql (.x 20) (I6 0), .b false), (.bin .sub (.x 20) (I6 1), .x 21), (.rt (.x 2000000) (.x 21) 1, .x 2000005), (.bin .add (.x 16) (I6 1), .x 22), (.sub (.x 0) (some (.x 22)) none, .x 23)]
theorem runCl_p7 : bK8 dG6 .normal [(0, .x 23), (2000000, .x 2000005)] [(12, 13)] 13 bZ7 bY9 = true := by kernel_rfl
def dG5 : LK := [(.call 39 [.x 0, .s 1 47], .x 25), (.bin .lss (.x 25) (I6 0), .b false), (.bin .add (.x 25) (I6 0), .x 26), (.sub (.x 0) none (some (.x 26)), .x 27), (.call 17 [.x 27], .tu [.s 0 0, .ifc 51 (.ag [I6 10, .x 28])])]
theorem runCl_p8 : bK8 dG5 .ret [(0, .x 28)] [] 24 [] [(4, bk 9 [.s 0 0]), (5, bk 24 [.ifc 51 (.ag [I6 10, .x 0])]), (11, .k 5 [(2, .p 4 0), (3, .p 5 0), (4, .p 6 0), (5, .p 7 0)] 64 2 .ret)] = true := by kernel_rfl
def dG4 : LK := [(.call 39 [.x 0, .s 1 47], .x 30), (.bin .lss (.x 30) (I6 0), .b true)]
theorem runCl_p9 : bK8 dG4 (.exit 2) [(0, .x 0), (2000000, .x 2000000)] [(12, 12)] 24 [(0, .yl 11), (2, .p 8 0)] [(4, bk 9 [.s 0 0]), (5, bk 24 [.ni]), (6, bk 31 [.sr 12]), (7, bk 9 [.und]), (8, bk 9 [.x 0]), (9, bk 9 [.s 1 47]), (10, bk 3 [I6 0]), (11, .k 5 [(2, .p 4 0), (3, .p 5 0), (4, .p 6 0), (5, .p 7 0)] 64 0 .normal), (12, .r 2000000 9 1 false)] = true := by kernel_rfl
def cJ8 : LK := [(.call 39 [.x 0, .s 1 47], .x 32), (.bin .lss (.x 32) (I6 0), .b false), (.bin .add (.x 32) (I6 0), .x 33), (.sub (.x 0) none (some (.x 33)), .x 34), (.call 17 [.x 34], .tu [.x 35, .ni]), (.bin .eql (.x 35) (.s 2 11822), .b true), (.rl (.x 2000000) 1, .x 36), (.bin .eql (.x 36) (I6 0), .b true)]
theorem runCl_p10 : bK8 cJ8 .ret [(0, .s 21 170204620060147215156831070085407667714849644748897)] [] 24 [] [(4, bk 9 [.s 0 0]), (5, bk 24 [.ifc 51 (.ag [I6 10, .x 0])]), (11, .k 5 [(2, .p 4 0), (3, .p 5 0), (4, .p 6 0), (5, .p 7 0)] 64 2 .ret)] = true := by kernel_rfl
section
variable {Q : Option (LL × LB)} {M : LB} {To : List LB} {Tr : LB} {B : Bool} {r : LB} {o : List LB} {X : Nat → Value}
theorem cX7 (hI : aR7 Q M To Tr B (0, r, o)) (h0 : ¬ (idxB r 47 < 0)) (h1 : ¬ (dcS (fK r) = none)) (h2 : ¬ ((gS (fK r)) = [u8 46, u8 46])) (h3 : ¬ (psB (gS (fK r)) = true)) : RHCl Q M To Tr B E' x' e' h' (0, r, o) X := by
  obtain ⟨i0, i1, i2, i3, i4, i5, it⟩ := cL5 Q M To Tr B 0 r o hI
  have := aP7 r 47
  have := aP9 r (by omega)
  have := aD2 (fK r)
  have := aH0 (l := r) (P := (idxB r 47) + 1) (by omega) (by omega)
  refine stCl_0 (h := dH3) (1, (List.drop (Int.toNat ((idxB r 47) + 1)) r), (([] : List LB) ++ [(gS (fK r))])) ?_ (aU1 ⟨eL7 (o := []) (by omega) (aT3 (o := []) (by assumption) (by assumption) (by assumption)).1 (show clL unS (sp47 [] r) [] = Q from by have e := i0; rw [i5 rfl] at e; exact e), eL8 (o := []) (by omega) (aT3 (o := []) (by assumption) (by assumption) (by assumption)).1 (show clE unS stM (sp47 [] r) [] = M from by have e := i1; rw [i5 rfl] at e; exact e), by rw [ap_yes (by omega) (aT3 (o := []) (by assumption) (by assumption) (by assumption)).2.1 i2]; try rfl, by rw [List.length_drop]; omega, by first | omega | (simp only [List.length_append, List.length_cons, List.length_nil, List.length_drop, List.length_take]; omega), fun h => by omega, by omega⟩) (by show (List.drop _ r).length < r.length; rw [List.length_drop]; omega) (thXv (v := St' (List.drop (Int.toNat ((idxB r 47) + 1)) r)) rfl rfl (thXv (v := rwS (([] : List LB) ++ [(gS (fK r))])) rfl rfl (aA6))) runCl_p0
  unfold dH3
  exact hc (kRn (denX rfl)) <|hc (aK8 (s := r) (isX rfl) (isSx (l := [u8 47]) 1 47 rfl) (denX rfl) (by omega)) <|hc (ltcF rfl (by omega)) <|hc (adC rfl rfl (by omega)) <|hc (tkV rfl rfl rfl (by omega)) <|hc (aJ0 (s := (fK r)) (isX rfl) (by rw [if_neg (by assumption)]; exact aE6 (denX rfl) aQ0) (by omega) (by omega)) <|hc (kEqS (isX rfl) (isSx (l := [u8 46, u8 46]) 2 11822 rfl) (decide_eq_false (by assumption))) <|hc (aZ2 (s := (gS (fK r))) (isX rfl) (eL5 (by assumption)) (by omega)) <|hc (kRa (isX rfl) (isX rfl) (denX rfl)) <|hc (kRf (isX rfl) (by first | omega | (simp <;> omega)) (by first | omega | (simp <;> omega))) <|hc (adC rfl rfl (by omega)) <|hc (drV rfl rfl rfl (by omega)) <|hnil
theorem cX6 (hI : aR7 Q M To Tr B (0, r, o)) (h0 : ¬ (idxB r 47 < 0)) (h1 : ¬ (dcS (fK r) = none)) (h2 : ¬ ((gS (fK r)) = [u8 46, u8 46])) (h3 : psB (gS (fK r)) = true) : RHCl Q M To Tr B E' x' e' h' (0, r, o) X := by
  obtain ⟨i0, i1, i2, i3, i4, i5, it⟩ := cL5 Q M To Tr B 0 r o hI
  have := aP7 r 47
  have := aP9 r (by omega)
  have := aD2 (fK r)
  have := aH0 (l := r) (P := (idxB r 47) + 1) (by omega) (by omega)
  refine stCl_0 (h := dH2) (0, (List.drop (Int.toNat ((idxB r 47) + 1)) r), ([] : List LB)) ?_ (aU1 ⟨eL7 (o := []) (by omega) (aM4 (o := []) (by assumption) (by assumption)).1 (show clL unS (sp47 [] r) [] = Q from by have e := i0; rw [i5 rfl] at e; exact e), eL8 (o := []) (by omega) (aM4 (o := []) (by assumption) (by assumption)).1 (show clE unS stM (sp47 [] r) [] = M from by have e := i1; rw [i5 rfl] at e; exact e), ap_no (by omega) (aM4 (o := []) (by assumption) (by assumption)).2.1 i2, by rw [List.length_drop]; omega, by first | omega | (simp only [List.length_append, List.length_cons, List.length_nil, List.length_drop, List.length_take]; omega), fun _ => rfl, by omega⟩) (by show (List.drop _ r).length < r.length; rw [List.length_drop]; omega) (thXv (v := St' (List.drop (Int.toNat ((idxB r 47) + 1)) r)) rfl rfl (aA6)) runCl_p1
  unfold dH2
  exact hc (aK8 (s := r) (isX rfl) (isSx (l := [u8 47]) 1 47 rfl) (denX rfl) (by omega)) <|hc (ltcF rfl (by omega)) <|hc (adC rfl rfl (by omega)) <|hc (tkV rfl rfl rfl (by omega)) <|hc (aJ0 (s := (fK r)) (isX rfl) (by rw [if_neg (by assumption)]; exact aE6 (denX rfl) aQ0) (by omega) (by omega)) <|hc (kEqS (isX rfl) (isSx (l := [u8 46, u8 46]) 2 11822 rfl) (decide_eq_false (by assumption))) <|hc (aZ2 (s := (gS (fK r))) (isX rfl) (eL4 (by assumption)) (by omega)) <|hc (adC rfl rfl (by omega)) <|hc (drV rfl rfl rfl (by omega)) <|hnil
theorem cX5 (hI : aR7 Q M To Tr B (1, r, o)) (h0 : ¬ (idxB r 47 < 0)) (h1 : ¬ (dcS (fK r) = none)) (h2 : ¬ ((gS (fK r)) = [u8 46, u8 46])) (h3 : ¬ (psB (gS (fK r)) = true)) : RHCl Q M To Tr B E' x' e' h' (1, r, o) X := by
  obtain ⟨i0, i1, i2, i3, i4, i5, it⟩ := cL5 Q M To Tr B 1 r o hI
  have := aP7 r 47
  have := aP9 r (by omega)
  have := aD2 (fK r)
  have := aH0 (l := r) (P := (idxB r 47) + 1) (by omega) (by omega)
  refine dX2 (h := dG8) (1, (List.drop (Int.toNat ((idxB r 47) + 1)) r), (o ++ [(gS (fK r))])) ?_ (aU1 ⟨eL7 (o := o) (by omega) (aT3 (o := o) (by assumption) (by assumption) (by assumption)).1 i0, eL8 (o := o) (by omega) (aT3 (o := o) (by assumption) (by assumption) (by assumption)).1 i1, by rw [← i2]; try rfl, by rw [List.length_drop]; omega, by first | omega | (simp only [List.length_append, List.length_cons, List.length_nil, List.length_drop, List.length_take]; omega), fun h => by omega, by omega⟩) (by show (List.drop _ r).length < r.length; rw [List.length_drop]; omega) (thXv (v := St' (List.drop (Int.toNat ((idxB r 47) + 1)) r)) rfl rfl (thXv (v := rwS (o ++ [(gS (fK r))])) rfl rfl (aA6))) runCl_p5
  unfold dG8
  exact hc (aK8 (s := r) (isX rfl) (isSx (l := [u8 47]) 1 47 rfl) (denX rfl) (by omega)) <|hc (ltcF rfl (by omega)) <|hc (adC rfl rfl (by omega)) <|hc (tkV rfl rfl rfl (by omega)) <|hc (aJ0 (s := (fK r)) (isX rfl) (by rw [if_neg (by assumption)]; exact aE6 (denX rfl) aQ0) (by omega) (by omega)) <|hc (kEqS (isX rfl) (isSx (l := [u8 46, u8 46]) 2 11822 rfl) (decide_eq_false (by assumption))) <|hc (aZ2 (s := (gS (fK r))) (isX rfl) (eL5 (by assumption)) (by omega)) <|hc (kRa (isX rfl) (isX rfl) (denX rfl)) <|hc (kRf (isX rfl) (by first | omega | (simp <;> omega)) (by first | omega | (simp <;> omega))) <|hc (adC rfl rfl (by omega)) <|hc (drV rfl rfl rfl (by omega)) <|hnil
theorem cX4 (hI : aR7 Q M To Tr B (1, r, o)) (h0 : ¬ (idxB r 47 < 0)) (h1 : ¬ (dcS (fK r) = none)) (h2 : ¬ ((gS (fK r)) = [u8 46, u8 46])) (h3 : psB (gS (fK r)) = true) : RHCl Q M To Tr B E' x' e' h' (1, r, o) X := by
  obtain ⟨i0, i1, i2, i3, i4, i5, it⟩ := cL5 Q M To Tr B 1 r o hI
  have := aP7 r 47
  have := aP9 r (by omega)
  have := aD2 (fK r)
  have := aH0 (l := r) (P := (idxB r 47) + 1) (by omega) (by omega)
  refine dX2 (h := dG7) (1, (List.drop (Int.toNat ((idxB r 47) + 1)) r), o) ?_ (aU1 ⟨eL7 (o := o) (by omega) (aM4 (o := o) (by assumption) (by assumption)).1 i0, eL8 (o := o) (by omega) (aM4 (o := o) (by assumption) (by assumption)).1 i1, ap_no (by omega) (aM4 (o := o) (by assumption) (by assumption)).2.1 i2, by rw [List.length_drop]; omega, by first | omega | (simp only [List.length_append, List.length_cons, List.length_nil, List.length_drop, List.length_take]; omega), fun h => by omega, by omega⟩) (by show (List.drop _ r).length < r.length; rw [List.length_drop]; omega) (thXv (v := St' (List.drop (Int.toNat ((idxB r 47) + 1)) r)) rfl rfl (thXv (v := rwS o) rfl rfl (aA6))) runCl_p6
  unfold dG7
  exact hc (aK8 (s := r) (isX rfl) (isSx (l := [u8 47]) 1 47 rfl) (denX rfl) (by omega)) <|hc (ltcF rfl (by omega)) <|hc (adC rfl rfl (by omega)) <|hc (tkV rfl rfl rfl (by omega)) <|hc (aJ0 (s := (fK r)) (isX rfl) (by rw [if_neg (by assumption)]; exact aE6 (denX rfl) aQ0) (by omega) (by omega)) <|hc (kEqS (isX rfl) (isSx (l := [u8 46, u8 46]) 2 11822 rfl) (decide_eq_false (by assumption))) <|hc (aZ2 (s := (gS (fK r))) (isX rfl) (eL4 (by assumption)) (by omega)) <|hc (adC rfl rfl (by omega)) <|hc (drV rfl rfl rfl (by omega)) <|hnil
theorem cX3 (hI : aR7 Q M To Tr B (1, r, o)) (h0 : ¬ (idxB r 47 < 0)) (h1 : ¬ (dcS (fK r) = none)) (h2 : (gS (fK r)) = [u8 46, u8 46]) (h3 : ¬ ((o.length : Int) = 0)) : RHCl Q M To Tr B E' x' e' h' (1, r, o) X := by
  obtain ⟨i0, i1, i2, i3, i4, i5, it⟩ := cL5 Q M To Tr B 1 r o hI
  have := aP7 r 47
  have := aP9 r (by omega)
  have := aD2 (fK r)
  obtain ⟨hdd1, hdd2⟩ := dd_f (t := (gS (fK r))) (by assumption)
  have := aH0 (l := r) (P := (idxB r 47) + 1) (by omega) (by omega)
  refine dX2 (h := dG6) (1, (List.drop (Int.toNat ((idxB r 47) + 1)) r), (o.take (Int.toNat ((o.length : Int) - 1)))) ?_ (aU1 ⟨eL7 (o := o) (by omega) (st_pop (o := o) (by assumption) (by assumption) (by omega)).1 i0, eL8 (o := o) (by omega) (st_pop (o := o) (by assumption) (by assumption) (by omega)).1 i1, ap_no (by omega) (st_pop (o := o) (by assumption) (by assumption) (by omega)).2 i2, by rw [List.length_drop]; omega, by first | omega | (simp only [List.length_append, List.length_cons, List.length_nil, List.length_drop, List.length_take]; omega), fun h => by omega, by omega⟩) (by show (List.drop _ r).length < r.length; rw [List.length_drop]; omega) (thXv (v := St' (List.drop (Int.toNat ((idxB r 47) + 1)) r)) rfl rfl (thXv (v := rwS (o.take (Int.toNat ((o.length : Int) - 1)))) rfl rfl (aA6))) runCl_p7
  unfold dG6
  exact hc (aK8 (s := r) (isX rfl) (isSx (l := [u8 47]) 1 47 rfl) (denX rfl) (by omega)) <|hc (ltcF rfl (by omega)) <|hc (adC rfl rfl (by omega)) <|hc (tkV rfl rfl rfl (by omega)) <|hc (aJ0 (s := (fK r)) (isX rfl) (by rw [if_neg (by assumption)]; exact aE6 (denX rfl) aQ0) (by omega) (by omega)) <|hc (kEqS (isX rfl) (isSx (l := [u8 46, u8 46]) 2 11822 rfl) (decide_eq_true (by assumption))) <|hc (kRl (isX rfl) (denX rfl) (by first | omega | (simp <;> omega))) <|hc (eqcF rfl (by omega)) <|hc (sbC rfl rfl (by omega)) <|hc (kRtS (j := (Int.toNat ((o.length : Int) - 1))) (isX rfl) (isX rfl) (denX rfl) (by omega) (by omega)) <|hc (adC rfl rfl (by omega)) <|hc (drV rfl rfl rfl (by omega)) <|hnil
end
def eH0 (Q : Option (LL × LB)) (M : LB) (To : List LB) (Tr : LB) (B : Bool) : List Value := [St' Tr]
def roECl_0 (Q : Option (LL × LB)) (M : LB) (To : List LB) (Tr : LB) (B : Bool) : List Value := []
noncomputable def ECl_0 (Q : Option (LL × LB)) (M : LB) (To : List LB) (Tr : LB) (B : Bool) : Cx := cx (nuX (eH0 Q M To Tr B) (rX (roECl_0 Q M To Tr B) (fun _ => .bool true))) (aA4 (aA2 (l := eH0 Q M To Tr B) rfl)) 1 aA3 aA0
theorem roundsCl_0 (Q : Option (LL × LB)) (M : LB) (To : List LB) (Tr : LB) (B : Bool) (x0 : Q = some ([], Tr)) (x1 : B = false) (st : Nat × LB × List LB) (X : Nat → Value) (hI : aR7 Q M To Tr B st) : RHCl Q M To Tr B (ECl_0 Q M To Tr B) (.exit 2) [(0, .yl 11), (2, .p 8 0)] [(4, bk 9 [.s 0 0]), (5, bk 24 [.ni]), (6, bk 31 [.nils]), (7, bk 9 [.und]), (8, bk 9 [.x 0]), (9, bk 9 [.s 1 47]), (10, bk 3 [I6 0]), (11, .k 5 [(2, .p 4 0), (3, .p 5 0), (4, .p 6 0), (5, .p 7 0)] 64 0 .normal)] st X := by
  obtain ⟨tag, r, o⟩ := st
  have hI0 := hI
  obtain ⟨i0, i1, i2, i3, i4, i5, it⟩ := cL5 Q M To Tr B tag r o hI
  rcases (show tag = 0 ∨ tag = 1 from by omega) with rfl | rfl
  · skip
    by_cases h0 : idxB r 47 < 0
    · skip
      have := aP7 r 47
      refine eI1 (h := dG9) rfl ?_ (thXe (v := St' r) (u := St' Tr) rfl rfl (congrArg (fun l => St' l) (ex_r (cS9 (by omega) i0) x0).2) (aA6)) runCl_p4
      unfold dG9
      exact hc (aK8 (s := r) (isX rfl) (isSx (l := [u8 47]) 1 47 rfl) (denX rfl) (by omega)) <|hc (ltcT rfl (by omega)) <|hnil
    · by_cases h1 : dcS (fK r) = none
      · exfalso; rw [bK1 (by omega) (aM5 (o := o) (by assumption)).1 i0] at x0; cases x0
      · by_cases h2 : (gS (fK r)) = [u8 46, u8 46]
        · exfalso; rw [bK1 (by omega) (aN8 (o := o) (by assumption) (by assumption) (i5 rfl)).1 i0] at x0; cases x0
        · by_cases h3 : psB (gS (fK r)) = true
          · exact cX6 hI0 h0 h1 h2 h3
          · exact cX7 hI0 h0 h1 h2 h3
  · skip
    by_cases h0 : idxB r 47 < 0
    · exfalso; rw [ap_end (by omega) i2] at x1; exact absurd x1 (by decide)
    · by_cases h1 : dcS (fK r) = none
      · exfalso; rw [bK1 (by omega) (aM5 (o := o) (by assumption)).1 i0] at x0; cases x0
      · by_cases h2 : (gS (fK r)) = [u8 46, u8 46]
        · by_cases h3 : (o.length : Int) = 0
          · exfalso; rw [bK1 (by omega) (aN8 (o := o) (by assumption) (by assumption) (List.eq_nil_of_length_eq_zero (by omega))).1 i0] at x0; cases x0
          · exact cX3 hI0 h0 h1 h2 h3
        · by_cases h3 : psB (gS (fK r)) = true
          · exact cX4 hI0 h0 h1 h2 h3
          · exact cX5 hI0 h0 h1 h2 h3
theorem bM7 {l : LF} {h : LH} (Q : Option (LL × LB)) (M : LB) (To : List LB) (Tr : LB) (B : Bool) (x0 : Q = some ([], Tr)) (x1 : B = false) (st : Nat × LB × List LB) (hI : aR7 Q M To Tr B st) (hl : l.hp = some h) (hs : aF3 l h 52 aS3 (.exit 2) 4 12 24 = true) {th0 : LA} {sg0 : List (Nat × Nat)} (hth0 : ∀ X, ThOk (cx nu one 1 aA3 aA0) (DCl Q M To Tr B st X) th0) (h0 : aD9 l h 52 12 13 th0 sg0 (epCl st) (hpCl st) = true) {thx : LA} (hthx : ThOk (ECl_0 Q M To Tr B) (cx nu one 1 aA3 aA0) thx) (hx : aF5 l h 52 12 24 thx [(0, .yl 11), (2, .p 8 0)] [(4, bk 9 [.s 0 0]), (5, bk 24 [.ni]), (6, bk 31 [.nils]), (7, bk 9 [.und]), (8, bk 9 [.x 0]), (9, bk 9 [.s 1 47]), (10, bk 3 [I6 0]), (11, .k 5 [(2, .p 4 0), (3, .p 5 0), (4, .p 6 0), (5, .p 7 0)] 64 0 .normal)] = true) : LfOk (cx nu one 1 aA3 aA0) cA3 l :=
  aL5 (E := ECl_0 Q M To Tr B) (aR7 Q M To Tr B) (muCl Q M To Tr B) (DCl Q M To Tr B) (fun _ _ => rfl) (fun _ _ => rfl) (fun _ _ => rfl) (fun st X t ht => aD3.trans (aE2 ((by decide : ∀ t, t ∈ aS3 → t < 1000000) t ht))) rfl rfl rfl hl hs ebCl rfl rfl st hI hth0 h0 hthx hx (roundsCl_0 Q M To Tr B x0 x1)
def eG9 (Q : Option (LL × LB)) (M : LB) (To : List LB) (Tr : LB) (B : Bool) : List Value := [St' Tr]
def roECl_1 (Q : Option (LL × LB)) (M : LB) (To : List LB) (Tr : LB) (B : Bool) : List Value := [rwS To]
noncomputable def ECl_1 (Q : Option (LL × LB)) (M : LB) (To : List LB) (Tr : LB) (B : Bool) : Cx := cx (nuX (eG9 Q M To Tr B) (rX (roECl_1 Q M To Tr B) (fun _ => .bool true))) (aA4 (aA2 (l := eG9 Q M To Tr B) rfl)) 1 aA3 aA0
theorem roundsCl_1 (Q : Option (LL × LB)) (M : LB) (To : List LB) (Tr : LB) (B : Bool) (x0 : Q = some (To, Tr)) (x1 : B = true) (st : Nat × LB × List LB) (X : Nat → Value) (hI : aR7 Q M To Tr B st) : RHCl Q M To Tr B (ECl_1 Q M To Tr B) (.exit 2) [(0, .yl 11), (2, .p 8 0)] [(4, bk 9 [.s 0 0]), (5, bk 24 [.ni]), (6, bk 31 [.sr 12]), (7, bk 9 [.und]), (8, bk 9 [.x 0]), (9, bk 9 [.s 1 47]), (10, bk 3 [I6 0]), (11, .k 5 [(2, .p 4 0), (3, .p 5 0), (4, .p 6 0), (5, .p 7 0)] 64 0 .normal), (12, .r 2000000 9 1 false)] st X := by
  obtain ⟨tag, r, o⟩ := st
  have hI0 := hI
  obtain ⟨i0, i1, i2, i3, i4, i5, it⟩ := cL5 Q M To Tr B tag r o hI
  rcases (show tag = 0 ∨ tag = 1 from by omega) with rfl | rfl
  · skip
    by_cases h0 : idxB r 47 < 0
    · exfalso; rw [ap_end (by omega) i2] at x1; exact absurd x1 (by decide)
    · by_cases h1 : dcS (fK r) = none
      · exfalso; rw [bK1 (by omega) (aM5 (o := o) (by assumption)).1 i0] at x0; cases x0
      · by_cases h2 : (gS (fK r)) = [u8 46, u8 46]
        · exfalso; rw [bK1 (by omega) (aN8 (o := o) (by assumption) (by assumption) (i5 rfl)).1 i0] at x0; cases x0
        · by_cases h3 : psB (gS (fK r)) = true
          · exact cX6 hI0 h0 h1 h2 h3
          · exact cX7 hI0 h0 h1 h2 h3
  · skip
    by_cases h0 : idxB r 47 < 0
    · skip
      have := aP7 r 47
      refine eI0 (h := dG4) rfl ?_ (thXe (v := St' r) (u := St' Tr) rfl rfl (congrArg (fun l => St' l) (ex_r (cS9 (by omega) i0) x0).2) (thXe (v := rwS o) (u := rwS To) rfl rfl (congrArg rwS (ex_r (cS9 (by omega) i0) x0).1) (aA6))) runCl_p9
      unfold dG4
      exact hc (aK8 (s := r) (isX rfl) (isSx (l := [u8 47]) 1 47 rfl) (denX rfl) (by omega)) <|hc (ltcT rfl (by omega)) <|hnil
    · by_cases h1 : dcS (fK r) = none
      · exfalso; rw [bK1 (by omega) (aM5 (o := o) (by assumption)).1 i0] at x0; cases x0
      · by_cases h2 : (gS (fK r)) = [u8 46, u8 46]
        · by_cases h3 : (o.length : Int) = 0
          · exfalso; rw [bK1 (by omega) (aN8 (o := o) (by assumption) (by assumption) (List.eq_nil_of_length_eq_zero (by omega))).1 i0] at x0; cases x0
          · exact cX3 hI0 h0 h1 h2 h3
        · by_cases h3 : psB (gS (fK r)) = true
          · exact cX4 hI0 h0 h1 h2 h3
          · exact cX5 hI0 h0 h1 h2 h3
theorem aR1 {l : LF} {h : LH} (Q : Option (LL × LB)) (M : LB) (To : List LB) (Tr : LB) (B : Bool) (x0 : Q = some (To, Tr)) (x1 : B = true) (st : Nat × LB × List LB) (hI : aR7 Q M To Tr B st) (hl : l.hp = some h) (hs : aF3 l h 52 aS3 (.exit 2) 4 12 24 = true) {th0 : LA} {sg0 : List (Nat × Nat)} (hth0 : ∀ X, ThOk (cx nu one 1 aA3 aA0) (DCl Q M To Tr B st X) th0) (h0 : aD9 l h 52 12 13 th0 sg0 (epCl st) (hpCl st) = true) {thx : LA} (hthx : ThOk (ECl_1 Q M To Tr B) (cx nu one 1 aA3 aA0) thx) (hx : aF5 l h 52 12 24 thx [(0, .yl 11), (2, .p 8 0)] [(4, bk 9 [.s 0 0]), (5, bk 24 [.ni]), (6, bk 31 [.sr 12]), (7, bk 9 [.und]), (8, bk 9 [.x 0]), (9, bk 9 [.s 1 47]), (10, bk 3 [I6 0]), (11, .k 5 [(2, .p 4 0), (3, .p 5 0), (4, .p 6 0), (5, .p 7 0)] 64 0 .normal), (12, .r 2000000 9 1 false)] = true) : LfOk (cx nu one 1 aA3 aA0) cA3 l :=
  aL5 (E := ECl_1 Q M To Tr B) (aR7 Q M To Tr B) (muCl Q M To Tr B) (DCl Q M To Tr B) (fun _ _ => rfl) (fun _ _ => rfl) (fun _ _ => rfl) (fun st X t ht => aD3.trans (aE2 ((by decide : ∀ t, t ∈ aS3 → t < 1000000) t ht))) rfl rfl rfl hl hs ebCl rfl rfl st hI hth0 h0 hthx hx (roundsCl_1 Q M To Tr B x0 x1)
def eG8 (Q : Option (LL × LB)) (M : LB) (To : List LB) (Tr : LB) (B : Bool) : List Value := [St' M]
def roECl_2 (Q : Option (LL × LB)) (M : LB) (To : List LB) (Tr : LB) (B : Bool) : List Value := []
noncomputable def ECl_2 (Q : Option (LL × LB)) (M : LB) (To : List LB) (Tr : LB) (B : Bool) : Cx := cx (nuX (eG8 Q M To Tr B) (rX (roECl_2 Q M To Tr B) (fun _ => .bool true))) (aA4 (aA2 (l := eG8 Q M To Tr B) rfl)) 1 aA3 aA0
theorem roundsCl_2 (Q : Option (LL × LB)) (M : LB) (To : List LB) (Tr : LB) (B : Bool) (x0 : Q = none) (st : Nat × LB × List LB) (X : Nat → Value) (hI : aR7 Q M To Tr B st) : RHCl Q M To Tr B (ECl_2 Q M To Tr B) .ret [] [(4, bk 9 [.s 0 0]), (5, bk 24 [.ifc 51 (.ag [I6 10, .x 0])]), (11, .k 5 [(2, .p 4 0), (3, .p 5 0), (4, .p 6 0), (5, .p 7 0)] 64 2 .ret)] st X := by
  obtain ⟨tag, r, o⟩ := st
  have hI0 := hI
  obtain ⟨i0, i1, i2, i3, i4, i5, it⟩ := cL5 Q M To Tr B tag r o hI
  rcases (show tag = 0 ∨ tag = 1 from by omega) with rfl | rfl
  · skip
    by_cases h0 : idxB r 47 < 0
    · exfalso; rw [cS9 (by omega) i0] at x0; cases x0
    · by_cases h1 : dcS (fK r) = none
      · skip
        have := aP7 r 47
        have := aP9 r (by omega)
        have := aD2 (fK r)
        refine eI1 (h := dH0) rfl ?_ (thXe (v := St' (dcM (fK r))) (u := St' M) rfl rfl (congrArg (fun l => St' l) (show (dcM (fK r)) = M from by rw [← (aM5 (o := o) (by assumption)).2]; exact dU2 (by omega) (aM5 (o := o) (by assumption)).1 i1)) (aA6)) runCl_p3
        unfold dH0
        exact hc (aK8 (s := r) (isX rfl) (isSx (l := [u8 47]) 1 47 rfl) (denX rfl) (by omega)) <|hc (ltcF rfl (by omega)) <|hc (adC rfl rfl (by omega)) <|hc (tkV rfl rfl rfl (by omega)) <|hc (aJ0 (s := (fK r)) (isX rfl) (by rw [if_pos (by assumption)]; exact aE6 bL4 (bT3 (dI4 (denI .i64 10) (denX rfl)))) (by omega) (by omega)) <|hnil
      · by_cases h2 : (gS (fK r)) = [u8 46, u8 46]
        · skip
          have := aP7 r 47
          have := aP9 r (by omega)
          have := aD2 (fK r)
          obtain ⟨hdd1, hdd2⟩ := dd_f (t := (gS (fK r))) (by assumption)
          refine eI1 (h := dH1) rfl ?_ (aC2 (show Is _ (.s 21 170204620060147215156831070085407667714849644748897) (St' M) from isTo (v := St' ([u8 97, u8 32, u8 112, u8 97, u8 116, u8 104, u8 32, u8 116, u8 104, u8 97, u8 116, u8 32, u8 108, u8 101, u8 97, u8 100, u8 115, u8 32, u8 111, u8 117, u8 116])) (isSx (l := [u8 97, u8 32, u8 112, u8 97, u8 116, u8 104, u8 32, u8 116, u8 104, u8 97, u8 116, u8 32, u8 108, u8 101, u8 97, u8 100, u8 115, u8 32, u8 111, u8 117, u8 116]) 21 170204620060147215156831070085407667714849644748897 rfl) (congrArg (fun l => St' l) (show mOut = M from by rw [← (aN8 (o := o) (by assumption) (by assumption) (i5 rfl)).2]; exact dU2 (by omega) (aN8 (o := o) (by assumption) (by assumption) (i5 rfl)).1 i1))) (aA6)) runCl_p2
          unfold dH1
          exact hc (aK8 (s := r) (isX rfl) (isSx (l := [u8 47]) 1 47 rfl) (denX rfl) (by omega)) <|hc (ltcF rfl (by omega)) <|hc (adC rfl rfl (by omega)) <|hc (tkV rfl rfl rfl (by omega)) <|hc (aJ0 (s := (fK r)) (isX rfl) (by rw [if_neg (by assumption)]; exact aE6 (denX rfl) aQ0) (by omega) (by omega)) <|hc (kEqS (isX rfl) (isSx (l := [u8 46, u8 46]) 2 11822 rfl) (decide_eq_true (by assumption))) <|hnil
        · by_cases h3 : psB (gS (fK r)) = true
          · exact cX6 hI0 h0 h1 h2 h3
          · exact cX7 hI0 h0 h1 h2 h3
  · skip
    by_cases h0 : idxB r 47 < 0
    · exfalso; rw [cS9 (by omega) i0] at x0; cases x0
    · by_cases h1 : dcS (fK r) = none
      · skip
        have := aP7 r 47
        have := aP9 r (by omega)
        have := aD2 (fK r)
        refine eI0 (h := dG5) rfl ?_ (thXe (v := St' (dcM (fK r))) (u := St' M) rfl rfl (congrArg (fun l => St' l) (show (dcM (fK r)) = M from by rw [← (aM5 (o := o) (by assumption)).2]; exact dU2 (by omega) (aM5 (o := o) (by assumption)).1 i1)) (aA6)) runCl_p8
        unfold dG5
        exact hc (aK8 (s := r) (isX rfl) (isSx (l := [u8 47]) 1 47 rfl) (denX rfl) (by omega)) <|hc (ltcF rfl (by omega)) <|hc (adC rfl rfl (by omega)) <|hc (tkV rfl rfl rfl (by omega)) <|hc (aJ0 (s := (fK r)) (isX rfl) (by rw [if_pos (by assumption)]; exact aE6 bL4 (bT3 (dI4 (denI .i64 10) (denX rfl)))) (by omega) (by omega)) <|hnil
      · by_cases h2 : (gS (fK r)) = [u8 46, u8 46]
        · by_cases h3 : (o.length : Int) = 0
          · skip
            have := aP7 r 47
            have := aP9 r (by omega)
            have := aD2 (fK r)
            obtain ⟨hdd1, hdd2⟩ := dd_f (t := (gS (fK r))) (by assumption)
            refine eI0 (h := cJ8) rfl ?_ (aC2 (show Is _ (.s 21 170204620060147215156831070085407667714849644748897) (St' M) from isTo (v := St' ([u8 97, u8 32, u8 112, u8 97, u8 116, u8 104, u8 32, u8 116, u8 104, u8 97, u8 116, u8 32, u8 108, u8 101, u8 97, u8 100, u8 115, u8 32, u8 111, u8 117, u8 116])) (isSx (l := [u8 97, u8 32, u8 112, u8 97, u8 116, u8 104, u8 32, u8 116, u8 104, u8 97, u8 116, u8 32, u8 108, u8 101, u8 97, u8 100, u8 115, u8 32, u8 111, u8 117, u8 116]) 21 170204620060147215156831070085407667714849644748897 rfl) (congrArg (fun l => St' l) (show mOut = M from by rw [← (aN8 (o := o) (by assumption) (by assumption) (List.eq_nil_of_length_eq_zero (by omega))).2]; exact dU2 (by omega) (aN8 (o := o) (by assumption) (by assumption) (List.eq_nil_of_length_eq_zero (by omega))).1 i1))) (aA6)) runCl_p10
            unfold cJ8
            exact hc (aK8 (s := r) (isX rfl) (isSx (l := [u8 47]) 1 47 rfl) (denX rfl) (by omega)) <|hc (ltcF rfl (by omega)) <|hc (adC rfl rfl (by omega)) <|hc (tkV rfl rfl rfl (by omega)) <|hc (aJ0 (s := (fK r)) (isX rfl) (by rw [if_neg (by assumption)]; exact aE6 (denX rfl) aQ0) (by omega) (by omega)) <|hc (kEqS (isX rfl) (isSx (l := [u8 46, u8 46]) 2 11822 rfl) (decide_eq_true (by assumption))) <|hc (kRl (isX rfl) (denX rfl) (by first | omega | (simp <;> omega))) <|hc (eqcT rfl (by omega)) <|hnil
          · exact cX3 hI0 h0 h1 h2 h3
        · by_cases h3 : psB (gS (fK r)) = true
          · exact cX4 hI0 h0 h1 h2 h3
          · exact cX5 hI0 h0 h1 h2 h3
theorem lfOkCl_2 {l : LF} {h : LH} (Q : Option (LL × LB)) (M : LB) (To : List LB) (Tr : LB) (B : Bool) (x0 : Q = none) (st : Nat × LB × List LB) (hI : aR7 Q M To Tr B st) (hl : l.hp = some h) (hs : aF3 l h 52 aS3 .ret 4 12 24 = true) {th0 : LA} {sg0 : List (Nat × Nat)} (hth0 : ∀ X, ThOk (cx nu one 1 aA3 aA0) (DCl Q M To Tr B st X) th0) (h0 : aD9 l h 52 12 13 th0 sg0 (epCl st) (hpCl st) = true) {thx : LA} (hthx : ThOk (ECl_2 Q M To Tr B) (cx nu one 1 aA3 aA0) thx) (hx : aF5 l h 52 12 24 thx [] [(4, bk 9 [.s 0 0]), (5, bk 24 [.ifc 51 (.ag [I6 10, .x 0])]), (11, .k 5 [(2, .p 4 0), (3, .p 5 0), (4, .p 6 0), (5, .p 7 0)] 64 2 .ret)] = true) : LfOk (cx nu one 1 aA3 aA0) cA3 l :=
  aL5 (E := ECl_2 Q M To Tr B) (aR7 Q M To Tr B) (muCl Q M To Tr B) (DCl Q M To Tr B) (fun _ _ => rfl) (fun _ _ => rfl) (fun _ _ => rfl) (fun st X t ht => aD3.trans (aE2 ((by decide : ∀ t, t ∈ aS3 → t < 1000000) t ht))) rfl rfl rfl hl hs ebCl rfl rfl st hI hth0 h0 hthx hx (roundsCl_2 Q M To Tr B x0)
end Go.Proofs.YtbipkiiaajklhaaDoor.pathTells
