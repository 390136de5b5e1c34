/- A part of the proof: an interpreter of the model's own code on partly known states, and that what it answers is what the program answers. No condition of its own. -/
import Derived.Test.YtlfmfmegnenohaaDoorG1CutterCutsO6
set_option maxRecDepth 100000
set_option linter.unusedVariables false
set_option linter.unusedSimpArgs false
set_option maxHeartbeats 4000000
namespace Go.Proofs.YtlfmfmegnenohaaDoor.cutterCuts
open Go Go.AX Go.Proofs Go.Proofs.YtlfmfmegnenohaaDoor
variable {nu : Nat → Value} {one : ∀ i, i < 1000000 → (nu i).oneCell' = true} {E' : Cx} {x' : Ex} {e' : LA} {h' : LE}
noncomputable def bodyFd1 : Code := loopNo (Tryd.f4.body.getD .skip) 1
theorem keyFd1 : oneKey (loopsOf (Tryd.f4.body.getD .skip)) 19 1 0 = true := by kernel_rfl
def keepFd1 : List Nat := [0, 1, 9, 11, 12]
def epFd1_0 : LA := [(2, .sr 2), (7, .x 0), (10, .p 302 0), (13, .nils), (14, .x 1)]
def hpFd1_0 : LE := [(2, .r 2000000 5 1 true), (302, .b ⟨53, .l [.i .i64 (.ofNat 65535), .nils, .i .i64 (.ofNat 0), .b false], 0, 0, 0, false, false⟩)]
def nuFd1_0 (Sx : LB) (al : List Int) (s u : LB) (i nd : Int) : List Value := [St' s, .int .i64 (i), St' ([] : LB), .int .i64 ((s.length : Int)), .int .i64 ((al.length : Int)), .int .i64 (i % (al.length : Int)), .int .u8 (nthI al (Int.toNat (i % (al.length : Int)))), .int .i64 ((nthI al (Int.toNat (i % (al.length : Int))))), .int .i64 ((nthI al (Int.toNat (i % (al.length : Int)))) + 1), .int .i64 ((kS s al i)), St' (List.take (Int.toNat ((kS s al i))) s), .int .u8 (bt (List.take (Int.toNat ((kS s al i))) s) 0), .int .i64 ((kS s al i)), St' ((cU (List.take (Int.toNat ((kS s al i))) s)).2.1), .int .i64 (0), .int .i64 ((ndS ((cU (List.take (Int.toNat ((kS s al i))) s)).2.1))), St' (List.drop (Int.toNat ((kS s al i))) s), .int .i64 (i + 1), St' ([] : LB), .int .i64 ((s.length : Int)), .int .i64 ((al.length : Int)), .int .i64 (i % (al.length : Int)), .int .u8 (nthI al (Int.toNat (i % (al.length : Int)))), .int .i64 ((nthI al (Int.toNat (i % (al.length : Int))))), .int .i64 ((nthI al (Int.toNat (i % (al.length : Int)))) + 1), .int .i64 ((kS s al i)), St' (List.take (Int.toNat ((kS s al i))) s), .int .u8 (bt (List.take (Int.toNat ((kS s al i))) s) 0), .int .i64 ((kS s al i)), St' ((cU (List.take (Int.toNat ((kS s al i))) s)).2.1), .int .i64 (0), .int .i64 ((ndS ((cU (List.take (Int.toNat ((kS s al i))) s)).2.1))), .int .i64 (((cU (List.take (Int.toNat ((kS s al i))) s)).1.length : Int)), St' (List.drop (Int.toNat ((kS s al i))) s), .int .i64 (i + 1), St' ([] : LB), .int .i64 ((s.length : Int))]
def roFd1_0 (Sx : LB) (al : List Int) (s u : LB) (i nd : Int) : List Value := [rwI .u8 al, rwS ([] : List LB), rwS ([] : List LB), rwG reC ((cU (List.take (Int.toNat ((kS s al i))) s)).1), rwG reC ((cU (List.take (Int.toNat ((kS s al i))) s)).1), rwS ([] : List LB)]
def epFd1_1 : LA := [(2, .sr 2), (7, .x 0), (10, .p 302 0), (13, .nils), (14, .x 1)]
def hpFd1_1 : LE := [(2, .r 2000000 5 1 true), (302, .b ⟨53, .l [.i .i64 (.ofNat 65535), .sy 300, .x 2, .b false], 0, 0, 0, false, false⟩), (300, .t 3 5)]
def nuFd1_1 (Sx : LB) (al : List Int) (s u : LB) (i nd : Int) : List Value := [St' s, .int .i64 (i), .int .i64 (nd), St' ((cU u).2.1), St' ([] : LB), .int .i64 ((s.length : Int)), .int .i64 ((al.length : Int)), .int .i64 (i % (al.length : Int)), .int .u8 (nthI al (Int.toNat (i % (al.length : Int)))), .int .i64 ((nthI al (Int.toNat (i % (al.length : Int))))), .int .i64 ((nthI al (Int.toNat (i % (al.length : Int)))) + 1), .int .i64 ((kS s al i)), St' (List.take (Int.toNat ((kS s al i))) s), St' ((cU u).2.1 ++ (List.take (Int.toNat ((kS s al i))) s)), .int .i64 (((cU u).2.1.length : Int) + (kS s al i)), St' (List.drop (Int.toNat ((kS s al i))) s), .int .i64 (i + 1), St' ([] : LB), .int .i64 ((s.length : Int)), .int .i64 ((al.length : Int)), .int .i64 (i % (al.length : Int)), .int .u8 (nthI al (Int.toNat (i % (al.length : Int)))), .int .i64 ((nthI al (Int.toNat (i % (al.length : Int))))), .int .i64 ((nthI al (Int.toNat (i % (al.length : Int)))) + 1), .int .i64 ((kS s al i)), St' (List.take (Int.toNat ((kS s al i))) s), St' ((cU u).2.1 ++ (List.take (Int.toNat ((kS s al i))) s)), .int .i64 (((cU u).2.1.length : Int) + (kS s al i)), St' ((cU ((cU u).2.1 ++ (List.take (Int.toNat ((kS s al i))) s))).2.1), .int .i64 (nd), .int .i64 ((ndS ((cU ((cU u).2.1 ++ (List.take (Int.toNat ((kS s al i))) s))).2.1))), St' (List.drop (Int.toNat ((kS s al i))) s), .int .i64 (i + 1), St' ([] : LB), .int .i64 ((s.length : Int)), .int .i64 ((al.length : Int)), .int .i64 (i % (al.length : Int)), .int .u8 (nthI al (Int.toNat (i % (al.length : Int)))), .int .i64 ((nthI al (Int.toNat (i % (al.length : Int))))), .int .i64 ((nthI al (Int.toNat (i % (al.length : Int)))) + 1), .int .i64 ((kS s al i)), St' (List.take (Int.toNat ((kS s al i))) s), St' ((cU u).2.1 ++ (List.take (Int.toNat ((kS s al i))) s)), .int .i64 (((cU u).2.1.length : Int) + (kS s al i)), St' ((cU ((cU u).2.1 ++ (List.take (Int.toNat ((kS s al i))) s))).2.1), .int .i64 (nd), .int .i64 ((ndS ((cU ((cU u).2.1 ++ (List.take (Int.toNat ((kS s al i))) s))).2.1))), .int .i64 (((cU ((cU u).2.1 ++ (List.take (Int.toNat ((kS s al i))) s))).1.length : Int)), St' (List.drop (Int.toNat ((kS s al i))) s), .int .i64 (i + 1), St' ([] : LB), .int .i64 ((s.length : Int))]
def roFd1_1 (Sx : LB) (al : List Int) (s u : LB) (i nd : Int) : List Value := [rwI .u8 al, rwS ([] : List LB), rwS ([] : List LB), rwS ([] : List LB), rwG reC ((cU ((cU u).2.1 ++ (List.take (Int.toNat ((kS s al i))) s))).1), rwG reC ((cU ((cU u).2.1 ++ (List.take (Int.toNat ((kS s al i))) s))).1), rwS ([] : List LB)]
def epFd1_2 : LA := [(2, .sr 2), (7, .x 0), (10, .p 302 0), (13, .sr 301), (14, .x 1)]
def hpFd1_2 : LE := [(2, .r 2000000 5 1 true), (302, .b ⟨53, .l [.i .i64 (.ofNat 65535), .sy 300, .x 2, .b false], 0, 0, 0, false, false⟩), (300, .t 3 5), (301, .r 2000001 26 4 false)]
def nuFd1_2 (Sx : LB) (al : List Int) (s u : LB) (i nd : Int) : List Value := [St' s, .int .i64 (i), .int .i64 (nd), St' ((cU u).2.1), St' ([] : LB), .int .i64 ((s.length : Int)), .int .i64 ((al.length : Int)), .int .i64 (i % (al.length : Int)), .int .u8 (nthI al (Int.toNat (i % (al.length : Int)))), .int .i64 ((nthI al (Int.toNat (i % (al.length : Int))))), .int .i64 ((nthI al (Int.toNat (i % (al.length : Int)))) + 1), .int .i64 ((kS s al i)), St' (List.take (Int.toNat ((kS s al i))) s), St' ((cU u).2.1 ++ (List.take (Int.toNat ((kS s al i))) s)), .int .i64 (((cU u).2.1.length : Int) + (kS s al i)), St' ((cU ((cU u).2.1 ++ (List.take (Int.toNat ((kS s al i))) s))).2.1), .int .i64 (nd), .int .i64 ((ndS ((cU ((cU u).2.1 ++ (List.take (Int.toNat ((kS s al i))) s))).2.1))), St' (List.drop (Int.toNat ((kS s al i))) s), .int .i64 (i + 1), St' ([] : LB), .int .i64 ((s.length : Int)), .int .i64 ((al.length : Int)), .int .i64 (i % (al.length : Int)), .int .u8 (nthI al (Int.toNat (i % (al.length : Int)))), .int .i64 ((nthI al (Int.toNat (i % (al.length : Int))))), .int .i64 ((nthI al (Int.toNat (i % (al.length : Int)))) + 1), .int .i64 ((kS s al i)), St' (List.take (Int.toNat ((kS s al i))) s), St' ((cU u).2.1 ++ (List.take (Int.toNat ((kS s al i))) s)), .int .i64 (((cU u).2.1.length : Int) + (kS s al i)), St' ((cU ((cU u).2.1 ++ (List.take (Int.toNat ((kS s al i))) s))).2.1), .int .i64 (nd), .int .i64 ((ndS ((cU ((cU u).2.1 ++ (List.take (Int.toNat ((kS s al i))) s))).2.1))), St' (List.drop (Int.toNat ((kS s al i))) s), .int .i64 (i + 1), St' ([] : LB), .int .i64 ((s.length : Int)), .int .i64 ((al.length : Int)), .int .i64 (i % (al.length : Int)), .int .u8 (nthI al (Int.toNat (i % (al.length : Int)))), .int .i64 ((nthI al (Int.toNat (i % (al.length : Int))))), .int .i64 ((nthI al (Int.toNat (i % (al.length : Int)))) + 1), .int .i64 ((kS s al i)), St' (List.take (Int.toNat ((kS s al i))) s), St' ((cU u).2.1 ++ (List.take (Int.toNat ((kS s al i))) s)), .int .i64 (((cU u).2.1.length : Int) + (kS s al i)), St' (List.drop (Int.toNat ((kS s al i))) s), .int .i64 (i + 1), St' ([] : LB), .int .i64 ((s.length : Int))]
def roFd1_2 (Sx : LB) (al : List Int) (s u : LB) (i nd : Int) : List Value := [rwI .u8 al, rwG reC ((cU u).1), rwS ([] : List LB), rwG reC ((cU u).1), rwS ([] : List LB), rwG reC ((cU ((cU u).2.1 ++ (List.take (Int.toNat ((kS s al i))) s))).1), rwG reC ((cU u).1 ++ (cU ((cU u).2.1 ++ (List.take (Int.toNat ((kS s al i))) s))).1), rwS ([] : List LB), rwG reC ((cU u).1), rwS ([] : List LB)]
def epFd1 (st : Nat × LB × LB × Int × Int) : LA := if st.1 = 0 then epFd1_0 else if st.1 = 1 then epFd1_1 else epFd1_2
def hpFd1 (st : Nat × LB × LB × Int × Int) : LE := if st.1 = 0 then hpFd1_0 else if st.1 = 1 then hpFd1_1 else hpFd1_2
def nuFd1 (Sx : LB) (al : List Int) (st : Nat × LB × LB × Int × Int) : List Value := if st.1 = 0 then nuFd1_0 Sx al (st.2.1) (st.2.2.1) (st.2.2.2.1) (st.2.2.2.2) else if st.1 = 1 then nuFd1_1 Sx al (st.2.1) (st.2.2.1) (st.2.2.2.1) (st.2.2.2.2) else nuFd1_2 Sx al (st.2.1) (st.2.2.1) (st.2.2.2.1) (st.2.2.2.2)
def roFd1 (Sx : LB) (al : List Int) (st : Nat × LB × LB × Int × Int) : List Value := if st.1 = 0 then roFd1_0 Sx al (st.2.1) (st.2.2.1) (st.2.2.2.1) (st.2.2.2.2) else if st.1 = 1 then roFd1_1 Sx al (st.2.1) (st.2.2.1) (st.2.2.2.1) (st.2.2.2.2) else roFd1_2 Sx al (st.2.1) (st.2.2.1) (st.2.2.2.1) (st.2.2.2.2)
theorem onFd1 (Sx : LB) (al : List Int) (st : Nat × LB × LB × Int × Int) : ∀ j, (nuL (nuFd1 Sx al st) j).oneCell' = true := by
  intro j
  unfold nuFd1
  by_cases g0 : st.1 = 0
  · rw [if_pos g0]; exact nuL_one (l := nuFd1_0 Sx al (st.2.1) (st.2.2.1) (st.2.2.2.1) (st.2.2.2.2)) rfl j
  rw [if_neg g0]
  by_cases g1 : st.1 = 1
  · rw [if_pos g1]; exact nuL_one (l := nuFd1_1 Sx al (st.2.1) (st.2.2.1) (st.2.2.2.1) (st.2.2.2.2)) rfl j
  rw [if_neg g1]
  exact nuL_one (l := nuFd1_2 Sx al (st.2.1) (st.2.2.1) (st.2.2.2.1) (st.2.2.2.2)) rfl j
theorem ebFd1 (st : Nat × LB × LB × Int × Int) : (lfB (epFd1 st) && lfC keepFd1) = true := by
  unfold epFd1
  by_cases g0 : st.1 = 0
  · rw [if_pos g0]; rfl
  rw [if_neg g0]
  by_cases g1 : st.1 = 1
  · rw [if_pos g1]; rfl
  rw [if_neg g1]
  rfl
noncomputable def DFd1 (Sx : LB) (al : List Int) (st : Nat × LB × LB × Int × Int) (X : Nat → Value) : Cx := cx (nuX (nuFd1 Sx al st) (rX (roFd1 Sx al st) X)) (nuX_one (onFd1 Sx al st)) 1 laidE laidE_stab
def InvFd1 (Sx : LB) (al : List Int) (st : Nat × LB × LB × Int × Int) : Prop := ((st.2.2.1) ++ (st.2.1) = Sx) ∧ (Sx.length ≤ 10000) ∧ (okS Sx) ∧ (0 ≤ (st.2.2.2.1)) ∧ ((st.2.2.2.1) ≤ ((st.2.2.1).length : Int)) ∧ (Nd 65535 (cU (st.2.2.1)).2.1 (st.2.2.2.2)) ∧ ((st.1) = 0 → (st.2.2.1) = []) ∧ ((st.1) = 1 → (cU (st.2.2.1)).1.length = 0) ∧ (¬ (st.1) = 0 → 1 ≤ (st.2.2.1).length) ∧ ((st.1) = 2 → ¬ (cU (st.2.2.1)).1.length = 0) ∧ (∀ n, n ∈ al → 0 ≤ n ∧ n ≤ 255) ∧ (1 ≤ al.length) ∧ (al.length ≤ 9223372036854775807) ∧ ((st.1) < 3)
abbrev CjFd1 (Sx : LB) (al : List Int) (tag : Nat) (s u : LB) (i nd : Int) : Prop := (u ++ s = Sx) ∧ (Sx.length ≤ 10000) ∧ (okS Sx) ∧ (0 ≤ i) ∧ (i ≤ (u.length : Int)) ∧ (Nd 65535 (cU u).2.1 nd) ∧ (tag = 0 → u = []) ∧ (tag = 1 → (cU u).1.length = 0) ∧ (¬ tag = 0 → 1 ≤ u.length) ∧ (tag = 2 → ¬ (cU u).1.length = 0) ∧ (∀ n, n ∈ al → 0 ≤ n ∧ n ≤ 255) ∧ (1 ≤ al.length) ∧ (al.length ≤ 9223372036854775807) ∧ (tag < 3)
theorem mkIFd1 (Sx : LB) (al : List Int) (tag : Nat) (s u : LB) (i nd : Int) (h : CjFd1 Sx al tag s u i nd) : InvFd1 Sx al (tag, s, u, i, nd) := h
theorem unIFd1 (Sx : LB) (al : List Int) (tag : Nat) (s u : LB) (i nd : Int) (h : InvFd1 Sx al (tag, s, u, i, nd)) : (u ++ s = Sx) ∧ (Sx.length ≤ 10000) ∧ (okS Sx) ∧ (0 ≤ i) ∧ (i ≤ (u.length : Int)) ∧ (Nd 65535 (cU u).2.1 nd) ∧ (tag = 0 → u = []) ∧ (tag = 1 → (cU u).1.length = 0) ∧ (¬ tag = 0 → 1 ≤ u.length) ∧ (tag = 2 → ¬ (cU u).1.length = 0) ∧ (∀ n, n ∈ al → 0 ≤ n ∧ n ≤ 255) ∧ (1 ≤ al.length) ∧ (al.length ≤ 9223372036854775807) ∧ (tag < 3) := h
def muFd1 (Sx : LB) (al : List Int) (st : Nat × LB × LB × Int × Int) : Nat := (st.2.1).length
abbrev RHFd1 (Sx : LB) (al : List Int) (E' : Cx) (ex' : Ex) (epx' : LA) (hpx' : LE) (st : Nat × LB × LB × Int × Int) (X : Nat → Value) : Prop := RoundH E' bodyFd1 keepFd1 137 ex' 1 300 303 420 epFd1 hpFd1 epx' hpx' (InvFd1 Sx al) (muFd1 Sx al) (DFd1 Sx al) st X
theorem sLFd1_0 (Sx : LB) (al : List Int) (s u : LB) (i nd : Int) {X : Nat → Value} {tb : Tab} {L : List LF} (y : Nat × LB × LB × Int × Int) {th : LA} {sg : List (Nat × Nat)} (hall : AllOk (cx (nuX (nuFd1_0 Sx al s u i nd) (rX (roFd1_0 Sx al s u i nd) X)) (nuX_one (nuL_one (l := nuFd1_0 Sx al s u i nd) rfl)) 1 laidE laidE_stab) tb) (hlp : LpOk (cx (nuX (nuFd1_0 Sx al s u i nd) (rX (roFd1_0 Sx al s u i nd) X)) (nuX_one (nuL_one (l := nuFd1_0 Sx al s u i nd) rfl)) 1 laidE laidE_stab) L bodyFd1) (hng : tb.ng = 1) (hy : InvFd1 Sx al y) (lt : muFd1 Sx al y < muFd1 Sx al (0, s, u, i, nd)) (ht : ThOk (cx (nuX (nuFd1_0 Sx al s u i nd) (rX (roFd1_0 Sx al s u i nd) X)) (nuX_one (nuL_one (l := nuFd1_0 Sx al s u i nd) rfl)) 1 laidE laidE_stab) (DFd1 Sx al y X) th) (run : okRdH (code tb 5000 L bodyFd1 (envOf (headOf epFd1_0 keepFd1) 137) ⟨lhSet hpFd1_0 .leaf, 303, 0, 0⟩) .normal keepFd1 137 420 th sg 300 303 (epFd1 y) (hpFd1 y) = true) : RHFd1 Sx al E' x' e' h' (0, s, u, i, nd) X :=
  RoundH.next (tb := tb) (L := L) (f := 5000) y hall hlp hng hy lt ht run
theorem lLFd1_0 (Sx : LB) (al : List Int) (s u : LB) (i nd : Int) {X : Nat → Value} {tb : Tab} {L : List LF} {th : LA} {sg : List (Nat × Nat)} (hne : exB x' .normal = false) (hall : AllOk (cx (nuX (nuFd1_0 Sx al s u i nd) (rX (roFd1_0 Sx al s u i nd) X)) (nuX_one (nuL_one (l := nuFd1_0 Sx al s u i nd) rfl)) 1 laidE laidE_stab) tb) (hlp : LpOk (cx (nuX (nuFd1_0 Sx al s u i nd) (rX (roFd1_0 Sx al s u i nd) X)) (nuX_one (nuL_one (l := nuFd1_0 Sx al s u i nd) rfl)) 1 laidE laidE_stab) L bodyFd1) (hng : tb.ng = 1) (ht : ThOk (cx (nuX (nuFd1_0 Sx al s u i nd) (rX (roFd1_0 Sx al s u i nd) X)) (nuX_one (nuL_one (l := nuFd1_0 Sx al s u i nd) rfl)) 1 laidE laidE_stab) E' th) (run : okRdH (code tb 5000 L bodyFd1 (envOf (headOf epFd1_0 keepFd1) 137) ⟨lhSet hpFd1_0 .leaf, 303, 0, 0⟩) x' keepFd1 137 420 th sg 300 420 e' h' = true) : RHFd1 Sx al E' x' e' h' (0, s, u, i, nd) X :=
  RoundH.leave (tb := tb) (L := L) (f := 5000) hall hlp hng hne ht run
noncomputable abbrev RNFd1_0 (h : LK) (x : Ex) (th : LA) (sg : List (Nat × Nat)) (m : Nat) (ep : LA) (hp : LE) : Bool := okRdH (code (tbl h) 5000 [] bodyFd1 (envOf (headOf epFd1_0 keepFd1) 137) ⟨lhSet hpFd1_0 .leaf, 303, 0, 0⟩) x keepFd1 137 420 th sg 300 m ep hp
theorem stFd1_0 (Sx : LB) (al : List Int) (s u : LB) (i nd : Int) {X : Nat → Value} {h : LK} (y : Nat × LB × LB × Int × Int) {th : LA} {sg : List (Nat × Nat)} (ho : ∀ a' r', (a', r') ∈ h → HOk (cx (nuX (nuFd1_0 Sx al s u i nd) (rX (roFd1_0 Sx al s u i nd) X)) (nuX_one (nuL_one (l := nuFd1_0 Sx al s u i nd) rfl)) 1 laidE laidE_stab) a' r') (hy : InvFd1 Sx al y) (lt : muFd1 Sx al y < muFd1 Sx al (0, s, u, i, nd)) (ht : ThOk (cx (nuX (nuFd1_0 Sx al s u i nd) (rX (roFd1_0 Sx al s u i nd) X)) (nuX_one (nuL_one (l := nuFd1_0 Sx al s u i nd) rfl)) 1 laidE laidE_stab) (DFd1 Sx al y X) th) (run : RNFd1_0 h .normal th sg 303 (epFd1 y) (hpFd1 y) = true) : RHFd1 Sx al E' x' e' h' (0, s, u, i, nd) X :=
  RoundH.next (tb := tbl h) (L := []) (f := 5000) y ((tabkOk _ _).hyps ho) (LpOk.nil _) rfl hy lt ht run
theorem lvFd1_0 (Sx : LB) (al : List Int) (s u : LB) (i nd : Int) {X : Nat → Value} {h : LK} {th : LA} {sg : List (Nat × Nat)} (hne : exB x' .normal = false) (ho : ∀ a' r', (a', r') ∈ h → HOk (cx (nuX (nuFd1_0 Sx al s u i nd) (rX (roFd1_0 Sx al s u i nd) X)) (nuX_one (nuL_one (l := nuFd1_0 Sx al s u i nd) rfl)) 1 laidE laidE_stab) a' r') (ht : ThOk (cx (nuX (nuFd1_0 Sx al s u i nd) (rX (roFd1_0 Sx al s u i nd) X)) (nuX_one (nuL_one (l := nuFd1_0 Sx al s u i nd) rfl)) 1 laidE laidE_stab) E' th) (run : RNFd1_0 h x' th sg 420 e' h' = true) : RHFd1 Sx al E' x' e' h' (0, s, u, i, nd) X :=
  RoundH.leave (tb := tbl h) (L := []) (f := 5000) ((tabkOk _ _).hyps ho) (LpOk.nil _) rfl hne ht run
theorem sLFd1_1 (Sx : LB) (al : List Int) (s u : LB) (i nd : Int) {X : Nat → Value} {tb : Tab} {L : List LF} (y : Nat × LB × LB × Int × Int) {th : LA} {sg : List (Nat × Nat)} (hall : AllOk (cx (nuX (nuFd1_1 Sx al s u i nd) (rX (roFd1_1 Sx al s u i nd) X)) (nuX_one (nuL_one (l := nuFd1_1 Sx al s u i nd) rfl)) 1 laidE laidE_stab) tb) (hlp : LpOk (cx (nuX (nuFd1_1 Sx al s u i nd) (rX (roFd1_1 Sx al s u i nd) X)) (nuX_one (nuL_one (l := nuFd1_1 Sx al s u i nd) rfl)) 1 laidE laidE_stab) L bodyFd1) (hng : tb.ng = 1) (hy : InvFd1 Sx al y) (lt : muFd1 Sx al y < muFd1 Sx al (1, s, u, i, nd)) (ht : ThOk (cx (nuX (nuFd1_1 Sx al s u i nd) (rX (roFd1_1 Sx al s u i nd) X)) (nuX_one (nuL_one (l := nuFd1_1 Sx al s u i nd) rfl)) 1 laidE laidE_stab) (DFd1 Sx al y X) th) (run : okRdH (code tb 5000 L bodyFd1 (envOf (headOf epFd1_1 keepFd1) 137) ⟨lhSet hpFd1_1 .leaf, 303, 0, 0⟩) .normal keepFd1 137 420 th sg 300 303 (epFd1 y) (hpFd1 y) = true) : RHFd1 Sx al E' x' e' h' (1, s, u, i, nd) X :=
  RoundH.next (tb := tb) (L := L) (f := 5000) y hall hlp hng hy lt ht run
theorem lLFd1_1 (Sx : LB) (al : List Int) (s u : LB) (i nd : Int) {X : Nat → Value} {tb : Tab} {L : List LF} {th : LA} {sg : List (Nat × Nat)} (hne : exB x' .normal = false) (hall : AllOk (cx (nuX (nuFd1_1 Sx al s u i nd) (rX (roFd1_1 Sx al s u i nd) X)) (nuX_one (nuL_one (l := nuFd1_1 Sx al s u i nd) rfl)) 1 laidE laidE_stab) tb) (hlp : LpOk (cx (nuX (nuFd1_1 Sx al s u i nd) (rX (roFd1_1 Sx al s u i nd) X)) (nuX_one (nuL_one (l := nuFd1_1 Sx al s u i nd) rfl)) 1 laidE laidE_stab) L bodyFd1) (hng : tb.ng = 1) (ht : ThOk (cx (nuX (nuFd1_1 Sx al s u i nd) (rX (roFd1_1 Sx al s u i nd) X)) (nuX_one (nuL_one (l := nuFd1_1 Sx al s u i nd) rfl)) 1 laidE laidE_stab) E' th) (run : okRdH (code tb 5000 L bodyFd1 (envOf (headOf epFd1_1 keepFd1) 137) ⟨lhSet hpFd1_1 .leaf, 303, 0, 0⟩) x' keepFd1 137 420 th sg 300 420 e' h' = true) : RHFd1 Sx al E' x' e' h' (1, s, u, i, nd) X :=
  RoundH.leave (tb := tb) (L := L) (f := 5000) hall hlp hng hne ht run
noncomputable abbrev RNFd1_1 (h : LK) (x : Ex) (th : LA) (sg : List (Nat × Nat)) (m : Nat) (ep : LA) (hp : LE) : Bool := okRdH (code (tbl h) 5000 [] bodyFd1 (envOf (headOf epFd1_1 keepFd1) 137) ⟨lhSet hpFd1_1 .leaf, 303, 0, 0⟩) x keepFd1 137 420 th sg 300 m ep hp
theorem stFd1_1 (Sx : LB) (al : List Int) (s u : LB) (i nd : Int) {X : Nat → Value} {h : LK} (y : Nat × LB × LB × Int × Int) {th : LA} {sg : List (Nat × Nat)} (ho : ∀ a' r', (a', r') ∈ h → HOk (cx (nuX (nuFd1_1 Sx al s u i nd) (rX (roFd1_1 Sx al s u i nd) X)) (nuX_one (nuL_one (l := nuFd1_1 Sx al s u i nd) rfl)) 1 laidE laidE_stab) a' r') (hy : InvFd1 Sx al y) (lt : muFd1 Sx al y < muFd1 Sx al (1, s, u, i, nd)) (ht : ThOk (cx (nuX (nuFd1_1 Sx al s u i nd) (rX (roFd1_1 Sx al s u i nd) X)) (nuX_one (nuL_one (l := nuFd1_1 Sx al s u i nd) rfl)) 1 laidE laidE_stab) (DFd1 Sx al y X) th) (run : RNFd1_1 h .normal th sg 303 (epFd1 y) (hpFd1 y) = true) : RHFd1 Sx al E' x' e' h' (1, s, u, i, nd) X :=
  RoundH.next (tb := tbl h) (L := []) (f := 5000) y ((tabkOk _ _).hyps ho) (LpOk.nil _) rfl hy lt ht run
theorem lvFd1_1 (Sx : LB) (al : List Int) (s u : LB) (i nd : Int) {X : Nat → Value} {h : LK} {th : LA} {sg : List (Nat × Nat)} (hne : exB x' .normal = false) (ho : ∀ a' r', (a', r') ∈ h → HOk (cx (nuX (nuFd1_1 Sx al s u i nd) (rX (roFd1_1 Sx al s u i nd) X)) (nuX_one (nuL_one (l := nuFd1_1 Sx al s u i nd) rfl)) 1 laidE laidE_stab) a' r') (ht : ThOk (cx (nuX (nuFd1_1 Sx al s u i nd) (rX (roFd1_1 Sx al s u i nd) X)) (nuX_one (nuL_one (l := nuFd1_1 Sx al s u i nd) rfl)) 1 laidE laidE_stab) E' th) (run : RNFd1_1 h x' th sg 420 e' h' = true) : RHFd1 Sx al E' x' e' h' (1, s, u, i, nd) X :=
  RoundH.leave (tb := tbl h) (L := []) (f := 5000) ((tabkOk _ _).hyps ho) (LpOk.nil _) rfl hne ht run
theorem sLFd1_2 (Sx : LB) (al : List Int) (s u : LB) (i nd : Int) {X : Nat → Value} {tb : Tab} {L : List LF} (y : Nat × LB × LB × Int × Int) {th : LA} {sg : List (Nat × Nat)} (hall : AllOk (cx (nuX (nuFd1_2 Sx al s u i nd) (rX (roFd1_2 Sx al s u i nd) X)) (nuX_one (nuL_one (l := nuFd1_2 Sx al s u i nd) rfl)) 1 laidE laidE_stab) tb) (hlp : LpOk (cx (nuX (nuFd1_2 Sx al s u i nd) (rX (roFd1_2 Sx al s u i nd) X)) (nuX_one (nuL_one (l := nuFd1_2 Sx al s u i nd) rfl)) 1 laidE laidE_stab) L bodyFd1) (hng : tb.ng = 1) (hy : InvFd1 Sx al y) (lt : muFd1 Sx al y < muFd1 Sx al (2, s, u, i, nd)) (ht : ThOk (cx (nuX (nuFd1_2 Sx al s u i nd) (rX (roFd1_2 Sx al s u i nd) X)) (nuX_one (nuL_one (l := nuFd1_2 Sx al s u i nd) rfl)) 1 laidE laidE_stab) (DFd1 Sx al y X) th) (run : okRdH (code tb 5000 L bodyFd1 (envOf (headOf epFd1_2 keepFd1) 137) ⟨lhSet hpFd1_2 .leaf, 303, 0, 0⟩) .normal keepFd1 137 420 th sg 300 303 (epFd1 y) (hpFd1 y) = true) : RHFd1 Sx al E' x' e' h' (2, s, u, i, nd) X :=
  RoundH.next (tb := tb) (L := L) (f := 5000) y hall hlp hng hy lt ht run
theorem lLFd1_2 (Sx : LB) (al : List Int) (s u : LB) (i nd : Int) {X : Nat → Value} {tb : Tab} {L : List LF} {th : LA} {sg : List (Nat × Nat)} (hne : exB x' .normal = false) (hall : AllOk (cx (nuX (nuFd1_2 Sx al s u i nd) (rX (roFd1_2 Sx al s u i nd) X)) (nuX_one (nuL_one (l := nuFd1_2 Sx al s u i nd) rfl)) 1 laidE laidE_stab) tb) (hlp : LpOk (cx (nuX (nuFd1_2 Sx al s u i nd) (rX (roFd1_2 Sx al s u i nd) X)) (nuX_one (nuL_one (l := nuFd1_2 Sx al s u i nd) rfl)) 1 laidE laidE_stab) L bodyFd1) (hng : tb.ng = 1) (ht : ThOk (cx (nuX (nuFd1_2 Sx al s u i nd) (rX (roFd1_2 Sx al s u i nd) X)) (nuX_one (nuL_one (l := nuFd1_2 Sx al s u i nd) rfl)) 1 laidE laidE_stab) E' th) (run : okRdH (code tb 5000 L bodyFd1 (envOf (headOf epFd1_2 keepFd1) 137) ⟨lhSet hpFd1_2 .leaf, 303, 0, 0⟩) x' keepFd1 137 420 th sg 300 420 e' h' = true) : RHFd1 Sx al E' x' e' h' (2, s, u, i, nd) X :=
  RoundH.leave (tb := tb) (L := L) (f := 5000) hall hlp hng hne ht run
noncomputable abbrev RNFd1_2 (h : LK) (x : Ex) (th : LA) (sg : List (Nat × Nat)) (m : Nat) (ep : LA) (hp : LE) : Bool := okRdH (code (tbl h) 5000 [] bodyFd1 (envOf (headOf epFd1_2 keepFd1) 137) ⟨lhSet hpFd1_2 .leaf, 303, 0, 0⟩) x keepFd1 137 420 th sg 300 m ep hp
theorem stFd1_2 (Sx : LB) (al : List Int) (s u : LB) (i nd : Int) {X : Nat → Value} {h : LK} (y : Nat × LB × LB × Int × Int) {th : LA} {sg : List (Nat × Nat)} (ho : ∀ a' r', (a', r') ∈ h → HOk (cx (nuX (nuFd1_2 Sx al s u i nd) (rX (roFd1_2 Sx al s u i nd) X)) (nuX_one (nuL_one (l := nuFd1_2 Sx al s u i nd) rfl)) 1 laidE laidE_stab) a' r') (hy : InvFd1 Sx al y) (lt : muFd1 Sx al y < muFd1 Sx al (2, s, u, i, nd)) (ht : ThOk (cx (nuX (nuFd1_2 Sx al s u i nd) (rX (roFd1_2 Sx al s u i nd) X)) (nuX_one (nuL_one (l := nuFd1_2 Sx al s u i nd) rfl)) 1 laidE laidE_stab) (DFd1 Sx al y X) th) (run : RNFd1_2 h .normal th sg 303 (epFd1 y) (hpFd1 y) = true) : RHFd1 Sx al E' x' e' h' (2, s, u, i, nd) X :=
  RoundH.next (tb := tbl h) (L := []) (f := 5000) y ((tabkOk _ _).hyps ho) (LpOk.nil _) rfl hy lt ht run
theorem lvFd1_2 (Sx : LB) (al : List Int) (s u : LB) (i nd : Int) {X : Nat → Value} {h : LK} {th : LA} {sg : List (Nat × Nat)} (hne : exB x' .normal = false) (ho : ∀ a' r', (a', r') ∈ h → HOk (cx (nuX (nuFd1_2 Sx al s u i nd) (rX (roFd1_2 Sx al s u i nd) X)) (nuX_one (nuL_one (l := nuFd1_2 Sx al s u i nd) rfl)) 1 laidE laidE_stab) a' r') (ht : ThOk (cx (nuX (nuFd1_2 Sx al s u i nd) (rX (roFd1_2 Sx al s u i nd) X)) (nuX_one (nuL_one (l := nuFd1_2 Sx al s u i nd) rfl)) 1 laidE laidE_stab) E' th) (run : RNFd1_2 h x' th sg 420 e' h' = true) : RHFd1 Sx al E' x' e' h' (2, s, u, i, nd) X :=
  RoundH.leave (tb := tbl h) (L := []) (f := 5000) ((tabkOk _ _).hyps ho) (LpOk.nil _) rfl hne ht run
def hyFd1_p0 : LK := [(.rn, .x 2000001), (.bytes [], .x 2), (.len (.x 0), .x 3), (.bin .gtr (.x 3) (.i .i64 (.ofNat 0)), .b true), (.rl (.x 2000000) 1, .x 4), (.bin .gtr (.x 4) (.i .i64 (.ofNat 0)), .b true), (.bin .rem (.x 1) (.x 4), .x 5), (.el (.x 2000000) (.x 5) 1 0, .x 6), (.conv 3 (.x 6), .x 7), (.bin .add (.x 7) (.i .i64 (.ofNat 1)), .x 8), (.mm false (.x 3) (.x 8), .x 9), (.sub (.x 0) none (some (.x 9)), .x 10), (.byt (.x 10) (.i .i64 (.ofNat 0)), .x 11), (.fit (.x 10), .b true), (.len (.x 10), .x 12), (.bin .lss (.x 12) (.i .i64 (.ofNat 0)), .b false), (.fit (.x 13), .b true), (.call 20 [.x 13], .x 15), (.sub (.x 0) (some (.x 9)) none, .x 16), (.bin .add (.x 1) (.i .i64 (.ofNat 1)), .x 17)]
def lh21 : LH := ⟨1, 320, 380, [(302, .b ⟨53, .l [.i .i64 (.ofNat 65535), .sy 303, .i .i64 (.ofNat 0), .b false], 0, 0, 0, false, false⟩), (303, .t 10 5)], [(302, .b ⟨53, .l [.i .i64 (.ofNat 65535), .sy 321, .x 14, .b false], 0, 0, 0, false, false⟩)]⟩
def lf21 : LF := ⟨2, 38, [(0, .p 302 0), (1, .x 10), (7, .nils)], [], .ret, [(4, .nils), (5, .x 13), (6, .ni)], some lh21⟩
noncomputable def tbFd1_p0 : Tab := addLps ((tbl hyFd1_p0)) 19 fi19 [lf21]
def LFd1_p0 : List LF := []
theorem runFd1_p0 : okRdH (code tbFd1_p0 5000 LFd1_p0 bodyFd1 (envOf (headOf epFd1_0 keepFd1) 137) ⟨lhSet hpFd1_0 .leaf, 303, 0, 0⟩) .normal keepFd1 137 420 [(0, .x 16), (1, .x 17), (2, .x 15), (3, .x 13), (2000000, .x 2000000)] [(302, 302), (300, 380)] 300 303 epFd1_1 hpFd1_1 = true := by kernel_rfl
theorem nxFd1_p0 (Sx : LB) (al : List Int) (s u : LB) (i nd : Int) (X : Nat → Value) (hI : InvFd1 Sx al (0, s, u, i, nd)) (h0 : 0 < (s.length : Int)) (h3 : (cU (List.take (Int.toNat ((kS s al i))) s)).1.length = 0) : RHFd1 Sx al E' x' e' h' (0, s, u, i, nd) X := by
  obtain ⟨i0, i1, i2, i3, i4, i5, i6, i7, i8, i9, i10, i11, i12, it⟩ := unIFd1 Sx al 0 s u i nd hI
  have := Int.emod_nonneg i (show ((al.length : Int)) ≠ 0 by omega); have := Int.emod_lt_of_pos i (show 0 < ((al.length : Int)) by omega)
  have := rngAt (lo := 0) (hi := 255) (l := al) (by decide) (by decide) (by assumption) (Int.toNat (i % (al.length : Int)))
  have hkS : kS s al i = min (s.length : Int) (nthI al (Int.toNat (i % (al.length : Int))) + 1) := rfl
  have := lenTake (l := s) (Q := (kS s al i)) (by omega) (by omega)
  have := bt_lo (List.take (Int.toNat ((kS s al i))) s) 0; have := bt_hi (List.take (Int.toNat ((kS s al i))) s) 0
  obtain ⟨hr1, hcw, hr3, hr4, hr5, hr7, hr10, hr9⟩ := fR0 (k := (kS s al i)) i0 (i6 rfl) i2
  have := lenDrop (l := s) (P := (kS s al i)) (by omega) (by omega)
  have ho : ∀ a' r', (a', r') ∈ hyFd1_p0 → HOk (cx (nuX (nuFd1_0 Sx al s u i nd) (rX (roFd1_0 Sx al s u i nd) X)) (nuX_one (nuL_one (l := nuFd1_0 Sx al s u i nd) rfl)) 1 laidE laidE_stab) a' r' := by
    unfold hyFd1_p0
    exact hc (kRn (denX rfl)) <|
     hc (kBytesB (bs := ([] : LB)) .nil (denX rfl)) <|
     hc (lnV rfl rfl (by omega)) <|
     hc (gtcT rfl (by omega)) <|
     hc (kRlI (isX rfl) (denX rfl) (by first | omega | (simp <;> omega))) <|
     hc (gtcT rfl (by omega)) <|
     hc (kRem (isX rfl) (isX rfl) (denX rfl) (by omega) (by omega) rfl) <|
     hc (kElI (j := (Int.toNat (i % (al.length : Int)))) (isX rfl) (isX rfl) (denX rfl) (by omega) (by omega)) <|
     hc (kConvF (isX rfl) tu3 (denX rfl) (fI64 (by omega) (by omega))) <|
     hc (adC rfl rfl (by omega)) <|
     hc (kMin (isX rfl) (isX rfl) (denX rfl) rfl) <|
     hc (tkV rfl rfl rfl (by omega)) <|
     hc (kByt (i := 0) (isX rfl) (isZ (m := 0) rfl) (denX rfl) rfl (by first | omega | (simp <;> omega)) rfl) <|
     hc (kFit (isX rfl) (by first | omega | (simp <;> omega))) <|
     hc (lnV rfl rfl (by omega)) <|
     hc (ltcF rfl (by omega)) <|
     hc (kFit (isX rfl) (by first | omega | (simp <;> omega))) <|
     hc (hokNds (isX rfl) (denX rfl) (by omega)) <|
     hc (drV rfl rfl rfl (by omega)) <|
     hc (adC rfl rfl (by omega)) <|
     hnil
  exact sLFd1_0 Sx al s u i nd (tb := tbFd1_p0) (L := LFd1_p0) (1, (List.drop (Int.toNat ((kS s al i))) s), (u ++ List.take (Int.toNat ((kS s al i))) s), i + 1, (ndS ((cU (List.take (Int.toNat ((kS s al i))) s)).2.1))) (AllOk.lp1 ((tabkOk _ _).hyps ho) (by omega) fi19_at fi19_body (lfCons (lpKnown rfl ⟨0, keyCuFd0, lfOkCuFd0_0 (l := lf21) (h := lh21) ((cU (List.take (Int.toNat ((kS s al i))) s)).1) ((cU (List.take (Int.toNat ((kS s al i))) s)).2.1) ((cU (List.take (Int.toNat ((kS s al i))) s)).2.2) 0 hcw (by omega) (0, (List.take (Int.toNat ((kS s al i))) s), []) (mkICuFd0 ((cU (List.take (Int.toNat ((kS s al i))) s)).1) ((cU (List.take (Int.toNat ((kS s al i))) s)).2.1) ((cU (List.take (Int.toNat ((kS s al i))) s)).2.2) 0 0 (List.take (Int.toNat ((kS s al i))) s) [] ⟨by omega, rfl, rfl, rfl, by simp only [List.length_nil]; omega, fun _ => rfl, fun h => by omega, by omega⟩) rfl (by kernel_rfl) (th0 := [(0, .x 10), (1, .i .i64 (.ofNat 0))]) (sg0 := [(321, 303)]) (fun X => thXv (v := St' (List.take (Int.toNat ((kS s al i))) s)) rfl rfl (thCons (show Is _ (.i .i64 (.ofNat 0)) (.int .i64 (0)) from isTo (v := .int .i64 0) (isI _ _) (by first | rfl | (congr 1; omega))) (thNil))) (by kernel_rfl) (thx := [(13, .x 0), (14, .x 1)]) (thXv (v := St' ((cU (List.take (Int.toNat ((kS s al i))) s)).2.1)) rfl rfl (thXv (v := .int .i64 (0)) rfl rfl (thNil))) (by kernel_rfl)⟩) lfNil)) (lpOk_one lfNil) rfl (mkIFd1 Sx al 1 (List.drop (Int.toNat ((kS s al i))) s) (u ++ List.take (Int.toNat ((kS s al i))) s) (i + 1) (ndS ((cU (List.take (Int.toNat ((kS s al i))) s)).2.1)) ⟨hr1, i1, i2, by omega, by rw [List.length_append]; omega, hr5, fun h => by omega, fun _ => by rw [hr3]; omega, fun _ => by rw [List.length_append]; omega, fun h => by omega, i10, i11, i12, by omega⟩) (by show (List.drop (Int.toNat ((kS s al i))) s).length < s.length; omega) (thXv (v := St' (List.drop (Int.toNat ((kS s al i))) s)) rfl rfl (thXi (b := ((i + 1))) rfl rfl (by omega) (thXv (v := .int .i64 ((ndS ((cU (List.take (Int.toNat ((kS s al i))) s)).2.1)))) rfl rfl (thXe (v := St' ((cU (List.take (Int.toNat ((kS s al i))) s)).2.1)) (u := St' ((cU (u ++ List.take (Int.toNat ((kS s al i))) s)).2.1)) rfl rfl (congrArg (fun l => St' l) hr4.symm) (thXv (v := rwI .u8 al) rfl rfl (thNil)))))) runFd1_p0
def hyFd1_p1 : LK := [(.rn, .x 2000002), (.bytes [], .x 18), (.len (.x 0), .x 19), (.bin .gtr (.x 19) (.i .i64 (.ofNat 0)), .b true), (.rl (.x 2000000) 1, .x 20), (.bin .gtr (.x 20) (.i .i64 (.ofNat 0)), .b true), (.bin .rem (.x 1) (.x 20), .x 21), (.el (.x 2000000) (.x 21) 1 0, .x 22), (.conv 3 (.x 22), .x 23), (.bin .add (.x 23) (.i .i64 (.ofNat 1)), .x 24), (.mm false (.x 19) (.x 24), .x 25), (.sub (.x 0) none (some (.x 25)), .x 26), (.byt (.x 26) (.i .i64 (.ofNat 0)), .x 27), (.fit (.x 26), .b true), (.len (.x 26), .x 28), (.bin .lss (.x 28) (.i .i64 (.ofNat 0)), .b false), (.fit (.x 29), .b true), (.call 20 [.x 29], .x 31), (.rl (.x 2000003) 4, .x 32), (.bin .gtr (.x 32) (.i .i64 (.ofNat 0)), .b true), (.rr (.x 2000002) (.x 2000003), .x 2000004), (.rf (.x 2000004) 4 40, .b true), (.sub (.x 0) (some (.x 25)) none, .x 33), (.bin .add (.x 1) (.i .i64 (.ofNat 1)), .x 34)]
def lh22 : LH := ⟨1, 320, 380, [(302, .b ⟨53, .l [.i .i64 (.ofNat 65535), .sy 303, .i .i64 (.ofNat 0), .b false], 0, 0, 0, false, false⟩), (303, .t 26 5)], [(302, .b ⟨53, .l [.i .i64 (.ofNat 65535), .sy 321, .x 30, .b false], 0, 0, 0, false, false⟩), (320, .r 2000003 26 4 false)]⟩
def lf22 : LF := ⟨2, 38, [(0, .p 302 0), (1, .x 26), (7, .nils)], [], .ret, [(4, .sr 320), (5, .x 29), (6, .ni)], some lh22⟩
noncomputable def tbFd1_p1 : Tab := addLps ((tbl hyFd1_p1)) 19 fi19 [lf22]
def LFd1_p1 : List LF := []
theorem runFd1_p1 : okRdH (code tbFd1_p1 5000 LFd1_p1 bodyFd1 (envOf (headOf epFd1_0 keepFd1) 137) ⟨lhSet hpFd1_0 .leaf, 303, 0, 0⟩) .normal keepFd1 137 420 [(0, .x 33), (1, .x 34), (2, .x 31), (3, .x 29), (2000000, .x 2000000), (2000001, .x 2000004)] [(302, 302), (301, 381), (300, 380)] 300 303 epFd1_2 hpFd1_2 = true := by kernel_rfl
theorem nxFd1_p1 (Sx : LB) (al : List Int) (s u : LB) (i nd : Int) (X : Nat → Value) (hI : InvFd1 Sx al (0, s, u, i, nd)) (h0 : 0 < (s.length : Int)) (h3 : ¬ ((cU (List.take (Int.toNat ((kS s al i))) s)).1.length = 0)) : RHFd1 Sx al E' x' e' h' (0, s, u, i, nd) X := by
  obtain ⟨i0, i1, i2, i3, i4, i5, i6, i7, i8, i9, i10, i11, i12, it⟩ := unIFd1 Sx al 0 s u i nd hI
  have := Int.emod_nonneg i (show ((al.length : Int)) ≠ 0 by omega); have := Int.emod_lt_of_pos i (show 0 < ((al.length : Int)) by omega)
  have := rngAt (lo := 0) (hi := 255) (l := al) (by decide) (by decide) (by assumption) (Int.toNat (i % (al.length : Int)))
  have hkS : kS s al i = min (s.length : Int) (nthI al (Int.toNat (i % (al.length : Int))) + 1) := rfl
  have := lenTake (l := s) (Q := (kS s al i)) (by omega) (by omega)
  have := bt_lo (List.take (Int.toNat ((kS s al i))) s) 0; have := bt_hi (List.take (Int.toNat ((kS s al i))) s) 0
  obtain ⟨hr1, hcw, hr3, hr4, hr5, hr7, hr10, hr9⟩ := fR0 (k := (kS s al i)) i0 (i6 rfl) i2
  have := lenDrop (l := s) (P := (kS s al i)) (by omega) (by omega)
  have ho : ∀ a' r', (a', r') ∈ hyFd1_p1 → HOk (cx (nuX (nuFd1_0 Sx al s u i nd) (rX (roFd1_0 Sx al s u i nd) X)) (nuX_one (nuL_one (l := nuFd1_0 Sx al s u i nd) rfl)) 1 laidE laidE_stab) a' r' := by
    unfold hyFd1_p1
    exact hc (kRn (denX rfl)) <|
     hc (kBytesB (bs := ([] : LB)) .nil (denX rfl)) <|
     hc (lnV rfl rfl (by omega)) <|
     hc (gtcT rfl (by omega)) <|
     hc (kRlI (isX rfl) (denX rfl) (by first | omega | (simp <;> omega))) <|
     hc (gtcT rfl (by omega)) <|
     hc (kRem (isX rfl) (isX rfl) (denX rfl) (by omega) (by omega) rfl) <|
     hc (kElI (j := (Int.toNat (i % (al.length : Int)))) (isX rfl) (isX rfl) (denX rfl) (by omega) (by omega)) <|
     hc (kConvF (isX rfl) tu3 (denX rfl) (fI64 (by omega) (by omega))) <|
     hc (adC rfl rfl (by omega)) <|
     hc (kMin (isX rfl) (isX rfl) (denX rfl) rfl) <|
     hc (tkV rfl rfl rfl (by omega)) <|
     hc (kByt (i := 0) (isX rfl) (isZ (m := 0) rfl) (denX rfl) rfl (by first | omega | (simp <;> omega)) rfl) <|
     hc (kFit (isX rfl) (by first | omega | (simp <;> omega))) <|
     hc (lnV rfl rfl (by omega)) <|
     hc (ltcF rfl (by omega)) <|
     hc (kFit (isX rfl) (by first | omega | (simp <;> omega))) <|
     hc (hokNds (isX rfl) (denX rfl) (by omega)) <|
     hc (kRlG reC_len (isX rfl) (denX rfl) (by first | omega | (simp <;> omega))) <|
     hc (gtcT rfl (by omega)) <|
     hc (kRr (f := reC) (l := []) (m := (cU (List.take (Int.toNat ((kS s al i))) s)).1) (isX rfl) (isX rfl) (denX rfl)) <|
     hc (kRfG reC_len (isX rfl) (by first | (rw [List.length_append]; omega) | (first | omega | (simp <;> omega))) (by first | (rw [List.length_append]; omega) | (first | omega | (simp <;> omega)))) <|
     hc (drV rfl rfl rfl (by omega)) <|
     hc (adC rfl rfl (by omega)) <|
     hnil
  exact sLFd1_0 Sx al s u i nd (tb := tbFd1_p1) (L := LFd1_p1) (2, (List.drop (Int.toNat ((kS s al i))) s), (u ++ List.take (Int.toNat ((kS s al i))) s), i + 1, (ndS ((cU (List.take (Int.toNat ((kS s al i))) s)).2.1))) (AllOk.lp1 ((tabkOk _ _).hyps ho) (by omega) fi19_at fi19_body (lfCons (lpKnown rfl ⟨0, keyCuFd0, lfOkCuFd0_1 (l := lf22) (h := lh22) ((cU (List.take (Int.toNat ((kS s al i))) s)).1) ((cU (List.take (Int.toNat ((kS s al i))) s)).2.1) ((cU (List.take (Int.toNat ((kS s al i))) s)).2.2) 0 hcw (by omega) (0, (List.take (Int.toNat ((kS s al i))) s), []) (mkICuFd0 ((cU (List.take (Int.toNat ((kS s al i))) s)).1) ((cU (List.take (Int.toNat ((kS s al i))) s)).2.1) ((cU (List.take (Int.toNat ((kS s al i))) s)).2.2) 0 0 (List.take (Int.toNat ((kS s al i))) s) [] ⟨by omega, rfl, rfl, rfl, by simp only [List.length_nil]; omega, fun _ => rfl, fun h => by omega, by omega⟩) rfl (by kernel_rfl) (th0 := [(0, .x 26), (1, .i .i64 (.ofNat 0))]) (sg0 := [(321, 303)]) (fun X => thXv (v := St' (List.take (Int.toNat ((kS s al i))) s)) rfl rfl (thCons (show Is _ (.i .i64 (.ofNat 0)) (.int .i64 (0)) from isTo (v := .int .i64 0) (isI _ _) (by first | rfl | (congr 1; omega))) (thNil))) (by kernel_rfl) (thx := [(29, .x 0), (30, .x 1), (2000003, .x 2000000)]) (thXv (v := St' ((cU (List.take (Int.toNat ((kS s al i))) s)).2.1)) rfl rfl (thXv (v := .int .i64 (0)) rfl rfl (thXv (v := rwG reC ((cU (List.take (Int.toNat ((kS s al i))) s)).1)) rfl rfl (thNil)))) (by kernel_rfl)⟩) lfNil)) (lpOk_one lfNil) rfl (mkIFd1 Sx al 2 (List.drop (Int.toNat ((kS s al i))) s) (u ++ List.take (Int.toNat ((kS s al i))) s) (i + 1) (ndS ((cU (List.take (Int.toNat ((kS s al i))) s)).2.1)) ⟨hr1, i1, i2, by omega, by rw [List.length_append]; omega, hr5, fun h => by omega, fun h => by omega, fun _ => by rw [List.length_append]; omega, fun _ => by rw [hr3]; omega, i10, i11, i12, by omega⟩) (by show (List.drop (Int.toNat ((kS s al i))) s).length < s.length; omega) (thXv (v := St' (List.drop (Int.toNat ((kS s al i))) s)) rfl rfl (thXi (b := ((i + 1))) rfl rfl (by omega) (thXv (v := .int .i64 ((ndS ((cU (List.take (Int.toNat ((kS s al i))) s)).2.1)))) rfl rfl (thXe (v := St' ((cU (List.take (Int.toNat ((kS s al i))) s)).2.1)) (u := St' ((cU (u ++ List.take (Int.toNat ((kS s al i))) s)).2.1)) rfl rfl (congrArg (fun l => St' l) hr4.symm) (thXv (v := rwI .u8 al) rfl rfl (thXe (v := rwG reC ((cU (List.take (Int.toNat ((kS s al i))) s)).1)) (u := rwG reC ((cU (u ++ List.take (Int.toNat ((kS s al i))) s)).1)) rfl rfl (congrArg (rwG reC) hr3.symm) (thNil))))))) runFd1_p1
def hyFd1_p2 : LK := [(.rn, .x 2000005), (.bytes [], .x 35), (.len (.x 0), .x 36), (.bin .gtr (.x 36) (.i .i64 (.ofNat 0)), .b false)]
theorem runFd1_p2 : RNFd1_0 hyFd1_p2 (.exit 2) [(2000000, .x 2000000)] [(302, 302)] 420 [(10, .p 302 0), (13, .nils)] [(2, .r 2000000 5 1 true), (302, .b ⟨53, .l [.i .i64 (.ofNat 65535), .nils, .und, .b false], 0, 0, 0, false, false⟩)] = true := by kernel_rfl
def hyFd1_p3 : LK := [(.rn, .x 2000001), (.bytes [], .x 4), (.len (.x 0), .x 5), (.bin .gtr (.x 5) (.i .i64 (.ofNat 0)), .b true), (.rl (.x 2000000) 1, .x 6), (.bin .gtr (.x 6) (.i .i64 (.ofNat 0)), .b true), (.bin .rem (.x 1) (.x 6), .x 7), (.el (.x 2000000) (.x 7) 1 0, .x 8), (.conv 3 (.x 8), .x 9), (.bin .add (.x 9) (.i .i64 (.ofNat 1)), .x 10), (.mm false (.x 5) (.x 10), .x 11), (.sub (.x 0) none (some (.x 11)), .x 12), (.bin .add (.x 3) (.x 12), .x 13), (.fit (.x 13), .b true), (.len (.x 13), .x 14), (.bin .lss (.x 14) (.x 2), .b true), (.sub (.x 0) (some (.x 11)) none, .x 15), (.bin .add (.x 1) (.i .i64 (.ofNat 1)), .x 16)]
theorem runFd1_p3 : RNFd1_1 hyFd1_p3 .normal [(0, .x 15), (1, .x 16), (2, .x 2), (3, .x 13), (2000000, .x 2000000)] [(302, 302), (300, 303)] 303 epFd1_1 hpFd1_1 = true := by kernel_rfl
theorem nxFd1_p3 (Sx : LB) (al : List Int) (s u : LB) (i nd : Int) (X : Nat → Value) (hI : InvFd1 Sx al (1, s, u, i, nd)) (h0 : 0 < (s.length : Int)) (h2 : ((cU u).2.1.length : Int) + (kS s al i) < nd) : RHFd1 Sx al E' x' e' h' (1, s, u, i, nd) X := by
  obtain ⟨i0, i1, i2, i3, i4, i5, i6, i7, i8, i9, i10, i11, i12, it⟩ := unIFd1 Sx al 1 s u i nd hI
  have := Int.emod_nonneg i (show ((al.length : Int)) ≠ 0 by omega); have := Int.emod_lt_of_pos i (show 0 < ((al.length : Int)) by omega)
  have := rngAt (lo := 0) (hi := 255) (l := al) (by decide) (by decide) (by assumption) (Int.toNat (i % (al.length : Int)))
  have hkS : kS s al i = min (s.length : Int) (nthI al (Int.toNat (i % (al.length : Int))) + 1) := rfl
  have := lenTake (l := s) (Q := (kS s al i)) (by omega) (by omega)
  have := lenDrop (l := s) (P := (kS s al i)) (by omega) (by omega)
  obtain ⟨hr1, hcw, hr3, hr4, hr5, hr6, hr7, hr9, hr8⟩ := fR (k := (kS s al i)) i0 i2 i5 (by omega) (by omega)
  rw [List.length_append] at hr9
  have hwl : (((cU u).2.1 ++ List.take (Int.toNat ((kS s al i))) s)).length ≤ 10000 := by rw [List.length_append]; omega
  obtain ⟨hx1, hx2, hx3⟩ := hr8 (by rw [List.length_append, Int.natCast_add]; omega)
  refine stFd1_1 Sx al s u i nd (h := hyFd1_p3) (1, (List.drop (Int.toNat ((kS s al i))) s), (u ++ List.take (Int.toNat ((kS s al i))) s), i + 1, nd) ?_ (mkIFd1 Sx al 1 (List.drop (Int.toNat ((kS s al i))) s) (u ++ List.take (Int.toNat ((kS s al i))) s) (i + 1) nd ⟨hr1, i1, i2, by omega, by rw [List.length_append]; omega, hx3, fun h => by omega, fun _ => by have h7 := i7 rfl; rw [hx1]; omega, fun _ => by rw [List.length_append]; omega, fun h => by omega, i10, i11, i12, by omega⟩) (by show (List.drop (Int.toNat ((kS s al i))) s).length < s.length; omega) (thXv (v := St' (List.drop (Int.toNat ((kS s al i))) s)) rfl rfl (thXi (b := ((i + 1))) rfl rfl (by omega) (thXv (v := .int .i64 (nd)) rfl rfl (thXe (v := St' ((cU u).2.1 ++ (List.take (Int.toNat ((kS s al i))) s))) (u := St' ((cU (u ++ List.take (Int.toNat ((kS s al i))) s)).2.1)) rfl rfl (congrArg (fun l => St' l) hx2.symm) (thXv (v := rwI .u8 al) rfl rfl (thNil)))))) runFd1_p3
  unfold hyFd1_p3
  exact hc (kRn (denX rfl)) <|
   hc (kBytesB (bs := ([] : LB)) .nil (denX rfl)) <|
   hc (lnV rfl rfl (by omega)) <|
   hc (gtcT rfl (by omega)) <|
   hc (kRlI (isX rfl) (denX rfl) (by first | omega | (simp <;> omega))) <|
   hc (gtcT rfl (by omega)) <|
   hc (kRem (isX rfl) (isX rfl) (denX rfl) (by omega) (by omega) rfl) <|
   hc (kElI (j := (Int.toNat (i % (al.length : Int)))) (isX rfl) (isX rfl) (denX rfl) (by omega) (by omega)) <|
   hc (kConvF (isX rfl) tu3 (denX rfl) (fI64 (by omega) (by omega))) <|
   hc (adC rfl rfl (by omega)) <|
   hc (kMin (isX rfl) (isX rfl) (denX rfl) rfl) <|
   hc (tkV rfl rfl rfl (by omega)) <|
   hc (kCat (isX rfl) (isX rfl) (denX rfl) (by first | rfl | (simp; done)) (by omega)) <|
   hc (kFit (isX rfl) (by first | omega | (simp <;> omega))) <|
   hc (lnV rfl rfl (by first | omega | (simp <;> omega))) <|
   hc (ltT rfl rfl (by omega)) <|
   hc (drV rfl rfl rfl (by omega)) <|
   hc (adC rfl rfl (by omega)) <|
   hnil
def hyFd1_p4 : LK := [(.rn, .x 2000002), (.bytes [], .x 17), (.len (.x 0), .x 18), (.bin .gtr (.x 18) (.i .i64 (.ofNat 0)), .b true), (.rl (.x 2000000) 1, .x 19), (.bin .gtr (.x 19) (.i .i64 (.ofNat 0)), .b true), (.bin .rem (.x 1) (.x 19), .x 20), (.el (.x 2000000) (.x 20) 1 0, .x 21), (.conv 3 (.x 21), .x 22), (.bin .add (.x 22) (.i .i64 (.ofNat 1)), .x 23), (.mm false (.x 18) (.x 23), .x 24), (.sub (.x 0) none (some (.x 24)), .x 25), (.bin .add (.x 3) (.x 25), .x 26), (.fit (.x 26), .b true), (.len (.x 26), .x 27), (.bin .lss (.x 27) (.x 2), .b false), (.fit (.x 28), .b true), (.call 20 [.x 28], .x 30), (.sub (.x 0) (some (.x 24)) none, .x 31), (.bin .add (.x 1) (.i .i64 (.ofNat 1)), .x 32)]
def lh23 : LH := ⟨1, 320, 380, [(302, .b ⟨53, .l [.i .i64 (.ofNat 65535), .sy 303, .x 2, .b false], 0, 0, 0, false, false⟩), (303, .t 26 5)], [(302, .b ⟨53, .l [.i .i64 (.ofNat 65535), .sy 321, .x 29, .b false], 0, 0, 0, false, false⟩)]⟩
def lf23 : LF := ⟨2, 38, [(0, .p 302 0), (1, .x 26), (7, .nils)], [], .ret, [(4, .nils), (5, .x 28), (6, .ni)], some lh23⟩
noncomputable def tbFd1_p4 : Tab := addLps ((tbl hyFd1_p4)) 19 fi19 [lf23]
def LFd1_p4 : List LF := []
theorem runFd1_p4 : okRdH (code tbFd1_p4 5000 LFd1_p4 bodyFd1 (envOf (headOf epFd1_1 keepFd1) 137) ⟨lhSet hpFd1_1 .leaf, 303, 0, 0⟩) .normal keepFd1 137 420 [(0, .x 31), (1, .x 32), (2, .x 30), (3, .x 28), (2000000, .x 2000000)] [(302, 302), (300, 380)] 300 303 epFd1_1 hpFd1_1 = true := by kernel_rfl
theorem nxFd1_p4 (Sx : LB) (al : List Int) (s u : LB) (i nd : Int) (X : Nat → Value) (hI : InvFd1 Sx al (1, s, u, i, nd)) (h0 : 0 < (s.length : Int)) (h2 : ¬ (((cU u).2.1.length : Int) + (kS s al i) < nd)) (h3 : (cU ((cU u).2.1 ++ (List.take (Int.toNat ((kS s al i))) s))).1.length = 0) : RHFd1 Sx al E' x' e' h' (1, s, u, i, nd) X := by
  obtain ⟨i0, i1, i2, i3, i4, i5, i6, i7, i8, i9, i10, i11, i12, it⟩ := unIFd1 Sx al 1 s u i nd hI
  have := Int.emod_nonneg i (show ((al.length : Int)) ≠ 0 by omega); have := Int.emod_lt_of_pos i (show 0 < ((al.length : Int)) by omega)
  have := rngAt (lo := 0) (hi := 255) (l := al) (by decide) (by decide) (by assumption) (Int.toNat (i % (al.length : Int)))
  have hkS : kS s al i = min (s.length : Int) (nthI al (Int.toNat (i % (al.length : Int))) + 1) := rfl
  have := lenTake (l := s) (Q := (kS s al i)) (by omega) (by omega)
  obtain ⟨hr1, hcw, hr3, hr4, hr5, hr6, hr7, hr9, hr8⟩ := fR (k := (kS s al i)) i0 i2 i5 (by omega) (by omega)
  rw [List.length_append] at hr9
  have hwl : (((cU u).2.1 ++ List.take (Int.toNat ((kS s al i))) s)).length ≤ 10000 := by rw [List.length_append]; omega
  have := lenDrop (l := s) (P := (kS s al i)) (by omega) (by omega)
  have ho : ∀ a' r', (a', r') ∈ hyFd1_p4 → HOk (cx (nuX (nuFd1_1 Sx al s u i nd) (rX (roFd1_1 Sx al s u i nd) X)) (nuX_one (nuL_one (l := nuFd1_1 Sx al s u i nd) rfl)) 1 laidE laidE_stab) a' r' := by
    unfold hyFd1_p4
    exact hc (kRn (denX rfl)) <|
     hc (kBytesB (bs := ([] : LB)) .nil (denX rfl)) <|
     hc (lnV rfl rfl (by omega)) <|
     hc (gtcT rfl (by omega)) <|
     hc (kRlI (isX rfl) (denX rfl) (by first | omega | (simp <;> omega))) <|
     hc (gtcT rfl (by omega)) <|
     hc (kRem (isX rfl) (isX rfl) (denX rfl) (by omega) (by omega) rfl) <|
     hc (kElI (j := (Int.toNat (i % (al.length : Int)))) (isX rfl) (isX rfl) (denX rfl) (by omega) (by omega)) <|
     hc (kConvF (isX rfl) tu3 (denX rfl) (fI64 (by omega) (by omega))) <|
     hc (adC rfl rfl (by omega)) <|
     hc (kMin (isX rfl) (isX rfl) (denX rfl) rfl) <|
     hc (tkV rfl rfl rfl (by omega)) <|
     hc (kCat (isX rfl) (isX rfl) (denX rfl) (by first | rfl | (simp; done)) (by omega)) <|
     hc (kFit (isX rfl) (by first | omega | (simp <;> omega))) <|
     hc (lnV rfl rfl (by first | omega | (simp <;> omega))) <|
     hc (ltF rfl rfl (by omega)) <|
     hc (kFit (isX rfl) (by first | omega | (simp <;> omega))) <|
     hc (hokNds (isX rfl) (denX rfl) (by omega)) <|
     hc (drV rfl rfl rfl (by omega)) <|
     hc (adC rfl rfl (by omega)) <|
     hnil
  exact sLFd1_1 Sx al s u i nd (tb := tbFd1_p4) (L := LFd1_p4) (1, (List.drop (Int.toNat ((kS s al i))) s), (u ++ List.take (Int.toNat ((kS s al i))) s), i + 1, (ndS ((cU ((cU u).2.1 ++ (List.take (Int.toNat ((kS s al i))) s))).2.1))) (AllOk.lp1 ((tabkOk _ _).hyps ho) (by omega) fi19_at fi19_body (lfCons (lpKnown rfl ⟨0, keyCuFd0, lfOkCuFd0_0 (l := lf23) (h := lh23) ((cU ((cU u).2.1 ++ (List.take (Int.toNat ((kS s al i))) s))).1) ((cU ((cU u).2.1 ++ (List.take (Int.toNat ((kS s al i))) s))).2.1) ((cU ((cU u).2.1 ++ (List.take (Int.toNat ((kS s al i))) s))).2.2) nd hcw (by omega) (0, ((cU u).2.1 ++ (List.take (Int.toNat ((kS s al i))) s)), []) (mkICuFd0 ((cU ((cU u).2.1 ++ (List.take (Int.toNat ((kS s al i))) s))).1) ((cU ((cU u).2.1 ++ (List.take (Int.toNat ((kS s al i))) s))).2.1) ((cU ((cU u).2.1 ++ (List.take (Int.toNat ((kS s al i))) s))).2.2) nd 0 ((cU u).2.1 ++ (List.take (Int.toNat ((kS s al i))) s)) [] ⟨by omega, rfl, rfl, rfl, by simp only [List.length_nil]; omega, fun _ => rfl, fun h => by omega, by omega⟩) rfl (by kernel_rfl) (th0 := [(0, .x 26), (1, .x 2)]) (sg0 := [(321, 303)]) (fun X => thXv (v := St' ((cU u).2.1 ++ (List.take (Int.toNat ((kS s al i))) s))) rfl rfl (thXv (v := .int .i64 (nd)) rfl rfl (thNil))) (by kernel_rfl) (thx := [(28, .x 0), (29, .x 1)]) (thXv (v := St' ((cU ((cU u).2.1 ++ (List.take (Int.toNat ((kS s al i))) s))).2.1)) rfl rfl (thXv (v := .int .i64 (nd)) rfl rfl (thNil))) (by kernel_rfl)⟩) lfNil)) (lpOk_one lfNil) rfl (mkIFd1 Sx al 1 (List.drop (Int.toNat ((kS s al i))) s) (u ++ List.take (Int.toNat ((kS s al i))) s) (i + 1) (ndS ((cU ((cU u).2.1 ++ (List.take (Int.toNat ((kS s al i))) s))).2.1)) ⟨hr1, i1, i2, by omega, by rw [List.length_append]; omega, hr5, fun h => by omega, fun _ => by have h7 := i7 rfl; rw [hr3, List.length_append]; omega, fun _ => by rw [List.length_append]; omega, fun h => by omega, i10, i11, i12, by omega⟩) (by show (List.drop (Int.toNat ((kS s al i))) s).length < s.length; omega) (thXv (v := St' (List.drop (Int.toNat ((kS s al i))) s)) rfl rfl (thXi (b := ((i + 1))) rfl rfl (by omega) (thXv (v := .int .i64 ((ndS ((cU ((cU u).2.1 ++ (List.take (Int.toNat ((kS s al i))) s))).2.1)))) rfl rfl (thXe (v := St' ((cU ((cU u).2.1 ++ (List.take (Int.toNat ((kS s al i))) s))).2.1)) (u := St' ((cU (u ++ List.take (Int.toNat ((kS s al i))) s)).2.1)) rfl rfl (congrArg (fun l => St' l) hr4.symm) (thXv (v := rwI .u8 al) rfl rfl (thNil)))))) runFd1_p4
def hyFd1_p5 : LK := [(.rn, .x 2000003), (.bytes [], .x 33), (.len (.x 0), .x 34), (.bin .gtr (.x 34) (.i .i64 (.ofNat 0)), .b true), (.rl (.x 2000000) 1, .x 35), (.bin .gtr (.x 35) (.i .i64 (.ofNat 0)), .b true), (.bin .rem (.x 1) (.x 35), .x 36), (.el (.x 2000000) (.x 36) 1 0, .x 37), (.conv 3 (.x 37), .x 38), (.bin .add (.x 38) (.i .i64 (.ofNat 1)), .x 39), (.mm false (.x 34) (.x 39), .x 40), (.sub (.x 0) none (some (.x 40)), .x 41), (.bin .add (.x 3) (.x 41), .x 42), (.fit (.x 42), .b true), (.len (.x 42), .x 43), (.bin .lss (.x 43) (.x 2), .b false), (.fit (.x 44), .b true), (.call 20 [.x 44], .x 46), (.rl (.x 2000004) 4, .x 47), (.bin .gtr (.x 47) (.i .i64 (.ofNat 0)), .b true), (.rr (.x 2000003) (.x 2000004), .x 2000005), (.rf (.x 2000005) 4 40, .b true), (.sub (.x 0) (some (.x 40)) none, .x 48), (.bin .add (.x 1) (.i .i64 (.ofNat 1)), .x 49)]
def lh24 : LH := ⟨1, 320, 380, [(302, .b ⟨53, .l [.i .i64 (.ofNat 65535), .sy 303, .x 2, .b false], 0, 0, 0, false, false⟩), (303, .t 42 5)], [(302, .b ⟨53, .l [.i .i64 (.ofNat 65535), .sy 321, .x 45, .b false], 0, 0, 0, false, false⟩), (320, .r 2000004 26 4 false)]⟩
def lf24 : LF := ⟨2, 38, [(0, .p 302 0), (1, .x 42), (7, .nils)], [], .ret, [(4, .sr 320), (5, .x 44), (6, .ni)], some lh24⟩
noncomputable def tbFd1_p5 : Tab := addLps ((tbl hyFd1_p5)) 19 fi19 [lf24]
def LFd1_p5 : List LF := []
theorem runFd1_p5 : okRdH (code tbFd1_p5 5000 LFd1_p5 bodyFd1 (envOf (headOf epFd1_1 keepFd1) 137) ⟨lhSet hpFd1_1 .leaf, 303, 0, 0⟩) .normal keepFd1 137 420 [(0, .x 48), (1, .x 49), (2, .x 46), (3, .x 44), (2000000, .x 2000000), (2000001, .x 2000005)] [(302, 302), (301, 381), (300, 380)] 300 303 epFd1_2 hpFd1_2 = true := by kernel_rfl
theorem nxFd1_p5 (Sx : LB) (al : List Int) (s u : LB) (i nd : Int) (X : Nat → Value) (hI : InvFd1 Sx al (1, s, u, i, nd)) (h0 : 0 < (s.length : Int)) (h2 : ¬ (((cU u).2.1.length : Int) + (kS s al i) < nd)) (h3 : ¬ ((cU ((cU u).2.1 ++ (List.take (Int.toNat ((kS s al i))) s))).1.length = 0)) : RHFd1 Sx al E' x' e' h' (1, s, u, i, nd) X := by
  obtain ⟨i0, i1, i2, i3, i4, i5, i6, i7, i8, i9, i10, i11, i12, it⟩ := unIFd1 Sx al 1 s u i nd hI
  have := Int.emod_nonneg i (show ((al.length : Int)) ≠ 0 by omega); have := Int.emod_lt_of_pos i (show 0 < ((al.length : Int)) by omega)
  have := rngAt (lo := 0) (hi := 255) (l := al) (by decide) (by decide) (by assumption) (Int.toNat (i % (al.length : Int)))
  have hkS : kS s al i = min (s.length : Int) (nthI al (Int.toNat (i % (al.length : Int))) + 1) := rfl
  have := lenTake (l := s) (Q := (kS s al i)) (by omega) (by omega)
  obtain ⟨hr1, hcw, hr3, hr4, hr5, hr6, hr7, hr9, hr8⟩ := fR (k := (kS s al i)) i0 i2 i5 (by omega) (by omega)
  rw [List.length_append] at hr9
  have hwl : (((cU u).2.1 ++ List.take (Int.toNat ((kS s al i))) s)).length ≤ 10000 := by rw [List.length_append]; omega
  have := lenDrop (l := s) (P := (kS s al i)) (by omega) (by omega)
  have ho : ∀ a' r', (a', r') ∈ hyFd1_p5 → HOk (cx (nuX (nuFd1_1 Sx al s u i nd) (rX (roFd1_1 Sx al s u i nd) X)) (nuX_one (nuL_one (l := nuFd1_1 Sx al s u i nd) rfl)) 1 laidE laidE_stab) a' r' := by
    unfold hyFd1_p5
    exact hc (kRn (denX rfl)) <|
     hc (kBytesB (bs := ([] : LB)) .nil (denX rfl)) <|
     hc (lnV rfl rfl (by omega)) <|
     hc (gtcT rfl (by omega)) <|
     hc (kRlI (isX rfl) (denX rfl) (by first | omega | (simp <;> omega))) <|
     hc (gtcT rfl (by omega)) <|
     hc (kRem (isX rfl) (isX rfl) (denX rfl) (by omega) (by omega) rfl) <|
     hc (kElI (j := (Int.toNat (i % (al.length : Int)))) (isX rfl) (isX rfl) (denX rfl) (by omega) (by omega)) <|
     hc (kConvF (isX rfl) tu3 (denX rfl) (fI64 (by omega) (by omega))) <|
     hc (adC rfl rfl (by omega)) <|
     hc (kMin (isX rfl) (isX rfl) (denX rfl) rfl) <|
     hc (tkV rfl rfl rfl (by omega)) <|
     hc (kCat (isX rfl) (isX rfl) (denX rfl) (by first | rfl | (simp; done)) (by omega)) <|
     hc (kFit (isX rfl) (by first | omega | (simp <;> omega))) <|
     hc (lnV rfl rfl (by first | omega | (simp <;> omega))) <|
     hc (ltF rfl rfl (by omega)) <|
     hc (kFit (isX rfl) (by first | omega | (simp <;> omega))) <|
     hc (hokNds (isX rfl) (denX rfl) (by omega)) <|
     hc (kRlG reC_len (isX rfl) (denX rfl) (by first | omega | (simp <;> omega))) <|
     hc (gtcT rfl (by omega)) <|
     hc (kRr (f := reC) (l := []) (m := (cU ((cU u).2.1 ++ (List.take (Int.toNat ((kS s al i))) s))).1) (isX rfl) (isX rfl) (denX rfl)) <|
     hc (kRfG reC_len (isX rfl) (by first | (rw [List.length_append]; omega) | (first | omega | (simp <;> omega))) (by first | (rw [List.length_append]; omega) | (first | omega | (simp <;> omega)))) <|
     hc (drV rfl rfl rfl (by omega)) <|
     hc (adC rfl rfl (by omega)) <|
     hnil
  exact sLFd1_1 Sx al s u i nd (tb := tbFd1_p5) (L := LFd1_p5) (2, (List.drop (Int.toNat ((kS s al i))) s), (u ++ List.take (Int.toNat ((kS s al i))) s), i + 1, (ndS ((cU ((cU u).2.1 ++ (List.take (Int.toNat ((kS s al i))) s))).2.1))) (AllOk.lp1 ((tabkOk _ _).hyps ho) (by omega) fi19_at fi19_body (lfCons (lpKnown rfl ⟨0, keyCuFd0, lfOkCuFd0_1 (l := lf24) (h := lh24) ((cU ((cU u).2.1 ++ (List.take (Int.toNat ((kS s al i))) s))).1) ((cU ((cU u).2.1 ++ (List.take (Int.toNat ((kS s al i))) s))).2.1) ((cU ((cU u).2.1 ++ (List.take (Int.toNat ((kS s al i))) s))).2.2) nd hcw (by omega) (0, ((cU u).2.1 ++ (List.take (Int.toNat ((kS s al i))) s)), []) (mkICuFd0 ((cU ((cU u).2.1 ++ (List.take (Int.toNat ((kS s al i))) s))).1) ((cU ((cU u).2.1 ++ (List.take (Int.toNat ((kS s al i))) s))).2.1) ((cU ((cU u).2.1 ++ (List.take (Int.toNat ((kS s al i))) s))).2.2) nd 0 ((cU u).2.1 ++ (List.take (Int.toNat ((kS s al i))) s)) [] ⟨by omega, rfl, rfl, rfl, by simp only [List.length_nil]; omega, fun _ => rfl, fun h => by omega, by omega⟩) rfl (by kernel_rfl) (th0 := [(0, .x 42), (1, .x 2)]) (sg0 := [(321, 303)]) (fun X => thXv (v := St' ((cU u).2.1 ++ (List.take (Int.toNat ((kS s al i))) s))) rfl rfl (thXv (v := .int .i64 (nd)) rfl rfl (thNil))) (by kernel_rfl) (thx := [(44, .x 0), (45, .x 1), (2000004, .x 2000000)]) (thXv (v := St' ((cU ((cU u).2.1 ++ (List.take (Int.toNat ((kS s al i))) s))).2.1)) rfl rfl (thXv (v := .int .i64 (nd)) rfl rfl (thXv (v := rwG reC ((cU ((cU u).2.1 ++ (List.take (Int.toNat ((kS s al i))) s))).1)) rfl rfl (thNil)))) (by kernel_rfl)⟩) lfNil)) (lpOk_one lfNil) rfl (mkIFd1 Sx al 2 (List.drop (Int.toNat ((kS s al i))) s) (u ++ List.take (Int.toNat ((kS s al i))) s) (i + 1) (ndS ((cU ((cU u).2.1 ++ (List.take (Int.toNat ((kS s al i))) s))).2.1)) ⟨hr1, i1, i2, by omega, by rw [List.length_append]; omega, hr5, fun h => by omega, fun h => by omega, fun _ => by rw [List.length_append]; omega, fun _ => by have h7 := i7 rfl; rw [hr3, List.length_append]; omega, i10, i11, i12, by omega⟩) (by show (List.drop (Int.toNat ((kS s al i))) s).length < s.length; omega) (thXv (v := St' (List.drop (Int.toNat ((kS s al i))) s)) rfl rfl (thXi (b := ((i + 1))) rfl rfl (by omega) (thXv (v := .int .i64 ((ndS ((cU ((cU u).2.1 ++ (List.take (Int.toNat ((kS s al i))) s))).2.1)))) rfl rfl (thXe (v := St' ((cU ((cU u).2.1 ++ (List.take (Int.toNat ((kS s al i))) s))).2.1)) (u := St' ((cU (u ++ List.take (Int.toNat ((kS s al i))) s)).2.1)) rfl rfl (congrArg (fun l => St' l) hr4.symm) (thXv (v := rwI .u8 al) rfl rfl (thXe (v := rwG reC ((cU ((cU u).2.1 ++ (List.take (Int.toNat ((kS s al i))) s))).1)) (u := rwG reC ((cU (u ++ List.take (Int.toNat ((kS s al i))) s)).1)) rfl rfl (congrArg (rwG reC) (apR hr3 (i7 rfl))) (thNil))))))) runFd1_p5
def hyFd1_p6 : LK := [(.rn, .x 2000002), (.bytes [], .x 4), (.len (.x 0), .x 5), (.bin .gtr (.x 5) (.i .i64 (.ofNat 0)), .b true), (.rl (.x 2000000) 1, .x 6), (.bin .gtr (.x 6) (.i .i64 (.ofNat 0)), .b true), (.bin .rem (.x 1) (.x 6), .x 7), (.el (.x 2000000) (.x 7) 1 0, .x 8), (.conv 3 (.x 8), .x 9), (.bin .add (.x 9) (.i .i64 (.ofNat 1)), .x 10), (.mm false (.x 5) (.x 10), .x 11), (.sub (.x 0) none (some (.x 11)), .x 12), (.bin .add (.x 3) (.x 12), .x 13), (.fit (.x 13), .b true), (.len (.x 13), .x 14), (.bin .lss (.x 14) (.x 2), .b false), (.fit (.x 15), .b true), (.call 20 [.x 15], .x 17), (.ra (.x 2000001) [], .x 2000003), (.rf (.x 2000003) 4 40, .b true), (.sub (.x 0) (some (.x 11)) none, .x 18), (.bin .add (.x 1) (.i .i64 (.ofNat 1)), .x 19)]
def lh28 : LH := ⟨1, 320, 380, [(302, .b ⟨53, .l [.i .i64 (.ofNat 65535), .sy 303, .x 2, .b false], 0, 0, 0, false, false⟩), (303, .t 13 5)], [(302, .b ⟨53, .l [.i .i64 (.ofNat 65535), .sy 321, .x 16, .b false], 0, 0, 0, false, false⟩)]⟩
def lf28 : LF := ⟨2, 38, [(0, .p 302 0), (1, .x 13), (7, .nils)], [], .ret, [(4, .nils), (5, .x 15), (6, .ni)], some lh28⟩
noncomputable def tbFd1_p6 : Tab := addLps ((tbl hyFd1_p6)) 19 fi19 [lf28]
def LFd1_p6 : List LF := []
theorem runFd1_p6 : okRdH (code tbFd1_p6 5000 LFd1_p6 bodyFd1 (envOf (headOf epFd1_2 keepFd1) 137) ⟨lhSet hpFd1_2 .leaf, 303, 0, 0⟩) .normal keepFd1 137 420 [(0, .x 18), (1, .x 19), (2, .x 17), (3, .x 15), (2000000, .x 2000000), (2000001, .x 2000003)] [(302, 302), (301, 381), (300, 380)] 300 303 epFd1_2 hpFd1_2 = true := by kernel_rfl
theorem nxFd1_p6 (Sx : LB) (al : List Int) (s u : LB) (i nd : Int) (X : Nat → Value) (hI : InvFd1 Sx al (2, s, u, i, nd)) (h0 : 0 < (s.length : Int)) (h2 : ¬ (((cU u).2.1.length : Int) + (kS s al i) < nd)) (h3 : (cU ((cU u).2.1 ++ (List.take (Int.toNat ((kS s al i))) s))).1.length = 0) : RHFd1 Sx al E' x' e' h' (2, s, u, i, nd) X := by
  obtain ⟨i0, i1, i2, i3, i4, i5, i6, i7, i8, i9, i10, i11, i12, it⟩ := unIFd1 Sx al 2 s u i nd hI
  have := Int.emod_nonneg i (show ((al.length : Int)) ≠ 0 by omega); have := Int.emod_lt_of_pos i (show 0 < ((al.length : Int)) by omega)
  have := rngAt (lo := 0) (hi := 255) (l := al) (by decide) (by decide) (by assumption) (Int.toNat (i % (al.length : Int)))
  have hkS : kS s al i = min (s.length : Int) (nthI al (Int.toNat (i % (al.length : Int))) + 1) := rfl
  have := lenTake (l := s) (Q := (kS s al i)) (by omega) (by omega)
  obtain ⟨hr1, hcw, hr3, hr4, hr5, hr6, hr7, hr9, hr8⟩ := fR (k := (kS s al i)) i0 i2 i5 (by omega) (by omega)
  rw [List.length_append] at hr9
  have hwl : (((cU u).2.1 ++ List.take (Int.toNat ((kS s al i))) s)).length ≤ 10000 := by rw [List.length_append]; omega
  have := lenDrop (l := s) (P := (kS s al i)) (by omega) (by omega)
  have ho : ∀ a' r', (a', r') ∈ hyFd1_p6 → HOk (cx (nuX (nuFd1_2 Sx al s u i nd) (rX (roFd1_2 Sx al s u i nd) X)) (nuX_one (nuL_one (l := nuFd1_2 Sx al s u i nd) rfl)) 1 laidE laidE_stab) a' r' := by
    unfold hyFd1_p6
    exact hc (kRn (denX rfl)) <|
     hc (kBytesB (bs := ([] : LB)) .nil (denX rfl)) <|
     hc (lnV rfl rfl (by omega)) <|
     hc (gtcT rfl (by omega)) <|
     hc (kRlI (isX rfl) (denX rfl) (by first | omega | (simp <;> omega))) <|
     hc (gtcT rfl (by omega)) <|
     hc (kRem (isX rfl) (isX rfl) (denX rfl) (by omega) (by omega) rfl) <|
     hc (kElI (j := (Int.toNat (i % (al.length : Int)))) (isX rfl) (isX rfl) (denX rfl) (by omega) (by omega)) <|
     hc (kConvF (isX rfl) tu3 (denX rfl) (fI64 (by omega) (by omega))) <|
     hc (adC rfl rfl (by omega)) <|
     hc (kMin (isX rfl) (isX rfl) (denX rfl) rfl) <|
     hc (tkV rfl rfl rfl (by omega)) <|
     hc (kCat (isX rfl) (isX rfl) (denX rfl) (by first | rfl | (simp; done)) (by omega)) <|
     hc (kFit (isX rfl) (by first | omega | (simp <;> omega))) <|
     hc (lnV rfl rfl (by first | omega | (simp <;> omega))) <|
     hc (ltF rfl rfl (by omega)) <|
     hc (kFit (isX rfl) (by first | omega | (simp <;> omega))) <|
     hc (hokNds (isX rfl) (denX rfl) (by omega)) <|
     hc (kRa0 (f := reC) (isX rfl) (denX rfl)) <|
     hc (kRfG reC_len (isX rfl) (by first | (rw [List.length_append]; omega) | (first | omega | (simp <;> omega))) (by first | (rw [List.length_append]; omega) | (first | omega | (simp <;> omega)))) <|
     hc (drV rfl rfl rfl (by omega)) <|
     hc (adC rfl rfl (by omega)) <|
     hnil
  exact sLFd1_2 Sx al s u i nd (tb := tbFd1_p6) (L := LFd1_p6) (2, (List.drop (Int.toNat ((kS s al i))) s), (u ++ List.take (Int.toNat ((kS s al i))) s), i + 1, (ndS ((cU ((cU u).2.1 ++ (List.take (Int.toNat ((kS s al i))) s))).2.1))) (AllOk.lp1 ((tabkOk _ _).hyps ho) (by omega) fi19_at fi19_body (lfCons (lpKnown rfl ⟨0, keyCuFd0, lfOkCuFd0_0 (l := lf28) (h := lh28) ((cU ((cU u).2.1 ++ (List.take (Int.toNat ((kS s al i))) s))).1) ((cU ((cU u).2.1 ++ (List.take (Int.toNat ((kS s al i))) s))).2.1) ((cU ((cU u).2.1 ++ (List.take (Int.toNat ((kS s al i))) s))).2.2) nd hcw (by omega) (0, ((cU u).2.1 ++ (List.take (Int.toNat ((kS s al i))) s)), []) (mkICuFd0 ((cU ((cU u).2.1 ++ (List.take (Int.toNat ((kS s al i))) s))).1) ((cU ((cU u).2.1 ++ (List.take (Int.toNat ((kS s al i))) s))).2.1) ((cU ((cU u).2.1 ++ (List.take (Int.toNat ((kS s al i))) s))).2.2) nd 0 ((cU u).2.1 ++ (List.take (Int.toNat ((kS s al i))) s)) [] ⟨by omega, rfl, rfl, rfl, by simp only [List.length_nil]; omega, fun _ => rfl, fun h => by omega, by omega⟩) rfl (by kernel_rfl) (th0 := [(0, .x 13), (1, .x 2)]) (sg0 := [(321, 303)]) (fun X => thXv (v := St' ((cU u).2.1 ++ (List.take (Int.toNat ((kS s al i))) s))) rfl rfl (thXv (v := .int .i64 (nd)) rfl rfl (thNil))) (by kernel_rfl) (thx := [(15, .x 0), (16, .x 1)]) (thXv (v := St' ((cU ((cU u).2.1 ++ (List.take (Int.toNat ((kS s al i))) s))).2.1)) rfl rfl (thXv (v := .int .i64 (nd)) rfl rfl (thNil))) (by kernel_rfl)⟩) lfNil)) (lpOk_one lfNil) rfl (mkIFd1 Sx al 2 (List.drop (Int.toNat ((kS s al i))) s) (u ++ List.take (Int.toNat ((kS s al i))) s) (i + 1) (ndS ((cU ((cU u).2.1 ++ (List.take (Int.toNat ((kS s al i))) s))).2.1)) ⟨hr1, i1, i2, by omega, by rw [List.length_append]; omega, hr5, fun h => by omega, fun h => by omega, fun _ => by rw [List.length_append]; omega, fun _ => by have h9 := i9 rfl; rw [hr3, List.length_append]; omega, i10, i11, i12, by omega⟩) (by show (List.drop (Int.toNat ((kS s al i))) s).length < s.length; omega) (thXv (v := St' (List.drop (Int.toNat ((kS s al i))) s)) rfl rfl (thXi (b := ((i + 1))) rfl rfl (by omega) (thXv (v := .int .i64 ((ndS ((cU ((cU u).2.1 ++ (List.take (Int.toNat ((kS s al i))) s))).2.1)))) rfl rfl (thXe (v := St' ((cU ((cU u).2.1 ++ (List.take (Int.toNat ((kS s al i))) s))).2.1)) (u := St' ((cU (u ++ List.take (Int.toNat ((kS s al i))) s)).2.1)) rfl rfl (congrArg (fun l => St' l) hr4.symm) (thXv (v := rwI .u8 al) rfl rfl (thXe (v := rwG reC ((cU u).1)) (u := rwG reC ((cU (u ++ List.take (Int.toNat ((kS s al i))) s)).1)) rfl rfl (congrArg (rwG reC) (apL hr3 (by assumption))) (thNil))))))) runFd1_p6
def hyFd1_p7 : LK := [(.rn, .x 2000004), (.bytes [], .x 20), (.len (.x 0), .x 21), (.bin .gtr (.x 21) (.i .i64 (.ofNat 0)), .b true), (.rl (.x 2000000) 1, .x 22), (.bin .gtr (.x 22) (.i .i64 (.ofNat 0)), .b true), (.bin .rem (.x 1) (.x 22), .x 23), (.el (.x 2000000) (.x 23) 1 0, .x 24), (.conv 3 (.x 24), .x 25), (.bin .add (.x 25) (.i .i64 (.ofNat 1)), .x 26), (.mm false (.x 21) (.x 26), .x 27), (.sub (.x 0) none (some (.x 27)), .x 28), (.bin .add (.x 3) (.x 28), .x 29), (.fit (.x 29), .b true), (.len (.x 29), .x 30), (.bin .lss (.x 30) (.x 2), .b false), (.fit (.x 31), .b true), (.call 20 [.x 31], .x 33), (.rr (.x 2000001) (.x 2000005), .x 2000006), (.rf (.x 2000006) 4 40, .b true), (.sub (.x 0) (some (.x 27)) none, .x 34), (.bin .add (.x 1) (.i .i64 (.ofNat 1)), .x 35)]
def lh29 : LH := ⟨1, 320, 380, [(302, .b ⟨53, .l [.i .i64 (.ofNat 65535), .sy 303, .x 2, .b false], 0, 0, 0, false, false⟩), (303, .t 29 5)], [(302, .b ⟨53, .l [.i .i64 (.ofNat 65535), .sy 321, .x 32, .b false], 0, 0, 0, false, false⟩), (320, .r 2000005 26 4 false)]⟩
def lf29 : LF := ⟨2, 38, [(0, .p 302 0), (1, .x 29), (7, .nils)], [], .ret, [(4, .sr 320), (5, .x 31), (6, .ni)], some lh29⟩
noncomputable def tbFd1_p7 : Tab := addLps ((tbl hyFd1_p7)) 19 fi19 [lf29]
def LFd1_p7 : List LF := []
theorem runFd1_p7 : okRdH (code tbFd1_p7 5000 LFd1_p7 bodyFd1 (envOf (headOf epFd1_2 keepFd1) 137) ⟨lhSet hpFd1_2 .leaf, 303, 0, 0⟩) .normal keepFd1 137 420 [(0, .x 34), (1, .x 35), (2, .x 33), (3, .x 31), (2000000, .x 2000000), (2000001, .x 2000006)] [(302, 302), (301, 381), (300, 380)] 300 303 epFd1_2 hpFd1_2 = true := by kernel_rfl
theorem nxFd1_p7 (Sx : LB) (al : List Int) (s u : LB) (i nd : Int) (X : Nat → Value) (hI : InvFd1 Sx al (2, s, u, i, nd)) (h0 : 0 < (s.length : Int)) (h2 : ¬ (((cU u).2.1.length : Int) + (kS s al i) < nd)) (h3 : ¬ ((cU ((cU u).2.1 ++ (List.take (Int.toNat ((kS s al i))) s))).1.length = 0)) : RHFd1 Sx al E' x' e' h' (2, s, u, i, nd) X := by
  obtain ⟨i0, i1, i2, i3, i4, i5, i6, i7, i8, i9, i10, i11, i12, it⟩ := unIFd1 Sx al 2 s u i nd hI
  have := Int.emod_nonneg i (show ((al.length : Int)) ≠ 0 by omega); have := Int.emod_lt_of_pos i (show 0 < ((al.length : Int)) by omega)
  have := rngAt (lo := 0) (hi := 255) (l := al) (by decide) (by decide) (by assumption) (Int.toNat (i % (al.length : Int)))
  have hkS : kS s al i = min (s.length : Int) (nthI al (Int.toNat (i % (al.length : Int))) + 1) := rfl
  have := lenTake (l := s) (Q := (kS s al i)) (by omega) (by omega)
  obtain ⟨hr1, hcw, hr3, hr4, hr5, hr6, hr7, hr9, hr8⟩ := fR (k := (kS s al i)) i0 i2 i5 (by omega) (by omega)
  rw [List.length_append] at hr9
  have hwl : (((cU u).2.1 ++ List.take (Int.toNat ((kS s al i))) s)).length ≤ 10000 := by rw [List.length_append]; omega
  have := lenDrop (l := s) (P := (kS s al i)) (by omega) (by omega)
  have ho : ∀ a' r', (a', r') ∈ hyFd1_p7 → HOk (cx (nuX (nuFd1_2 Sx al s u i nd) (rX (roFd1_2 Sx al s u i nd) X)) (nuX_one (nuL_one (l := nuFd1_2 Sx al s u i nd) rfl)) 1 laidE laidE_stab) a' r' := by
    unfold hyFd1_p7
    exact hc (kRn (denX rfl)) <|
     hc (kBytesB (bs := ([] : LB)) .nil (denX rfl)) <|
     hc (lnV rfl rfl (by omega)) <|
     hc (gtcT rfl (by omega)) <|
     hc (kRlI (isX rfl) (denX rfl) (by first | omega | (simp <;> omega))) <|
     hc (gtcT rfl (by omega)) <|
     hc (kRem (isX rfl) (isX rfl) (denX rfl) (by omega) (by omega) rfl) <|
     hc (kElI (j := (Int.toNat (i % (al.length : Int)))) (isX rfl) (isX rfl) (denX rfl) (by omega) (by omega)) <|
     hc (kConvF (isX rfl) tu3 (denX rfl) (fI64 (by omega) (by omega))) <|
     hc (adC rfl rfl (by omega)) <|
     hc (kMin (isX rfl) (isX rfl) (denX rfl) rfl) <|
     hc (tkV rfl rfl rfl (by omega)) <|
     hc (kCat (isX rfl) (isX rfl) (denX rfl) (by first | rfl | (simp; done)) (by omega)) <|
     hc (kFit (isX rfl) (by first | omega | (simp <;> omega))) <|
     hc (lnV rfl rfl (by first | omega | (simp <;> omega))) <|
     hc (ltF rfl rfl (by omega)) <|
     hc (kFit (isX rfl) (by first | omega | (simp <;> omega))) <|
     hc (hokNds (isX rfl) (denX rfl) (by omega)) <|
     hc (kRr (f := reC) (l := (cU u).1) (m := (cU ((cU u).2.1 ++ (List.take (Int.toNat ((kS s al i))) s))).1) (isX rfl) (isX rfl) (denX rfl)) <|
     hc (kRfG reC_len (isX rfl) (by first | (rw [List.length_append]; omega) | (first | omega | (simp <;> omega))) (by first | (rw [List.length_append]; omega) | (first | omega | (simp <;> omega)))) <|
     hc (drV rfl rfl rfl (by omega)) <|
     hc (adC rfl rfl (by omega)) <|
     hnil
  exact sLFd1_2 Sx al s u i nd (tb := tbFd1_p7) (L := LFd1_p7) (2, (List.drop (Int.toNat ((kS s al i))) s), (u ++ List.take (Int.toNat ((kS s al i))) s), i + 1, (ndS ((cU ((cU u).2.1 ++ (List.take (Int.toNat ((kS s al i))) s))).2.1))) (AllOk.lp1 ((tabkOk _ _).hyps ho) (by omega) fi19_at fi19_body (lfCons (lpKnown rfl ⟨0, keyCuFd0, lfOkCuFd0_1 (l := lf29) (h := lh29) ((cU ((cU u).2.1 ++ (List.take (Int.toNat ((kS s al i))) s))).1) ((cU ((cU u).2.1 ++ (List.take (Int.toNat ((kS s al i))) s))).2.1) ((cU ((cU u).2.1 ++ (List.take (Int.toNat ((kS s al i))) s))).2.2) nd hcw (by omega) (0, ((cU u).2.1 ++ (List.take (Int.toNat ((kS s al i))) s)), []) (mkICuFd0 ((cU ((cU u).2.1 ++ (List.take (Int.toNat ((kS s al i))) s))).1) ((cU ((cU u).2.1 ++ (List.take (Int.toNat ((kS s al i))) s))).2.1) ((cU ((cU u).2.1 ++ (List.take (Int.toNat ((kS s al i))) s))).2.2) nd 0 ((cU u).2.1 ++ (List.take (Int.toNat ((kS s al i))) s)) [] ⟨by omega, rfl, rfl, rfl, by simp only [List.length_nil]; omega, fun _ => rfl, fun h => by omega, by omega⟩) rfl (by kernel_rfl) (th0 := [(0, .x 29), (1, .x 2)]) (sg0 := [(321, 303)]) (fun X => thXv (v := St' ((cU u).2.1 ++ (List.take (Int.toNat ((kS s al i))) s))) rfl rfl (thXv (v := .int .i64 (nd)) rfl rfl (thNil))) (by kernel_rfl) (thx := [(31, .x 0), (32, .x 1), (2000005, .x 2000000)]) (thXv (v := St' ((cU ((cU u).2.1 ++ (List.take (Int.toNat ((kS s al i))) s))).2.1)) rfl rfl (thXv (v := .int .i64 (nd)) rfl rfl (thXv (v := rwG reC ((cU ((cU u).2.1 ++ (List.take (Int.toNat ((kS s al i))) s))).1)) rfl rfl (thNil)))) (by kernel_rfl)⟩) lfNil)) (lpOk_one lfNil) rfl (mkIFd1 Sx al 2 (List.drop (Int.toNat ((kS s al i))) s) (u ++ List.take (Int.toNat ((kS s al i))) s) (i + 1) (ndS ((cU ((cU u).2.1 ++ (List.take (Int.toNat ((kS s al i))) s))).2.1)) ⟨hr1, i1, i2, by omega, by rw [List.length_append]; omega, hr5, fun h => by omega, fun h => by omega, fun _ => by rw [List.length_append]; omega, fun _ => by have h9 := i9 rfl; rw [hr3, List.length_append]; omega, i10, i11, i12, by omega⟩) (by show (List.drop (Int.toNat ((kS s al i))) s).length < s.length; omega) (thXv (v := St' (List.drop (Int.toNat ((kS s al i))) s)) rfl rfl (thXi (b := ((i + 1))) rfl rfl (by omega) (thXv (v := .int .i64 ((ndS ((cU ((cU u).2.1 ++ (List.take (Int.toNat ((kS s al i))) s))).2.1)))) rfl rfl (thXe (v := St' ((cU ((cU u).2.1 ++ (List.take (Int.toNat ((kS s al i))) s))).2.1)) (u := St' ((cU (u ++ List.take (Int.toNat ((kS s al i))) s)).2.1)) rfl rfl (congrArg (fun l => St' l) hr4.symm) (thXv (v := rwI .u8 al) rfl rfl (thXe (v := rwG reC ((cU u).1 ++ (cU ((cU u).2.1 ++ (List.take (Int.toNat ((kS s al i))) s))).1)) (u := rwG reC ((cU (u ++ List.take (Int.toNat ((kS s al i))) s)).1)) rfl rfl (congrArg (rwG reC) hr3.symm) (thNil))))))) runFd1_p7
def hyFd1_p8 : LK := [(.rn, .x 2000007), (.bytes [], .x 36), (.len (.x 0), .x 37), (.bin .gtr (.x 37) (.i .i64 (.ofNat 0)), .b true), (.rl (.x 2000000) 1, .x 38), (.bin .gtr (.x 38) (.i .i64 (.ofNat 0)), .b true), (.bin .rem (.x 1) (.x 38), .x 39), (.el (.x 2000000) (.x 39) 1 0, .x 40), (.conv 3 (.x 40), .x 41), (.bin .add (.x 41) (.i .i64 (.ofNat 1)), .x 42), (.mm false (.x 37) (.x 42), .x 43), (.sub (.x 0) none (some (.x 43)), .x 44), (.bin .add (.x 3) (.x 44), .x 45), (.fit (.x 45), .b true), (.len (.x 45), .x 46), (.bin .lss (.x 46) (.x 2), .b true), (.ra (.x 2000001) [], .x 2000008), (.rf (.x 2000008) 4 40, .b true), (.sub (.x 0) (some (.x 43)) none, .x 47), (.bin .add (.x 1) (.i .i64 (.ofNat 1)), .x 48)]
theorem runFd1_p8 : RNFd1_2 hyFd1_p8 .normal [(0, .x 47), (1, .x 48), (2, .x 2), (3, .x 45), (2000000, .x 2000000), (2000001, .x 2000008)] [(302, 302), (301, 304), (300, 303)] 303 epFd1_2 hpFd1_2 = true := by kernel_rfl
theorem nxFd1_p8 (Sx : LB) (al : List Int) (s u : LB) (i nd : Int) (X : Nat → Value) (hI : InvFd1 Sx al (2, s, u, i, nd)) (h0 : 0 < (s.length : Int)) (h2 : ((cU u).2.1.length : Int) + (kS s al i) < nd) : RHFd1 Sx al E' x' e' h' (2, s, u, i, nd) X := by
  obtain ⟨i0, i1, i2, i3, i4, i5, i6, i7, i8, i9, i10, i11, i12, it⟩ := unIFd1 Sx al 2 s u i nd hI
  have := Int.emod_nonneg i (show ((al.length : Int)) ≠ 0 by omega); have := Int.emod_lt_of_pos i (show 0 < ((al.length : Int)) by omega)
  have := rngAt (lo := 0) (hi := 255) (l := al) (by decide) (by decide) (by assumption) (Int.toNat (i % (al.length : Int)))
  have hkS : kS s al i = min (s.length : Int) (nthI al (Int.toNat (i % (al.length : Int))) + 1) := rfl
  have := lenTake (l := s) (Q := (kS s al i)) (by omega) (by omega)
  have := lenDrop (l := s) (P := (kS s al i)) (by omega) (by omega)
  obtain ⟨hr1, hcw, hr3, hr4, hr5, hr6, hr7, hr9, hr8⟩ := fR (k := (kS s al i)) i0 i2 i5 (by omega) (by omega)
  rw [List.length_append] at hr9
  have hwl : (((cU u).2.1 ++ List.take (Int.toNat ((kS s al i))) s)).length ≤ 10000 := by rw [List.length_append]; omega
  obtain ⟨hx1, hx2, hx3⟩ := hr8 (by rw [List.length_append, Int.natCast_add]; omega)
  refine stFd1_2 Sx al s u i nd (h := hyFd1_p8) (2, (List.drop (Int.toNat ((kS s al i))) s), (u ++ List.take (Int.toNat ((kS s al i))) s), i + 1, nd) ?_ (mkIFd1 Sx al 2 (List.drop (Int.toNat ((kS s al i))) s) (u ++ List.take (Int.toNat ((kS s al i))) s) (i + 1) nd ⟨hr1, i1, i2, by omega, by rw [List.length_append]; omega, hx3, fun h => by omega, fun h => by omega, fun _ => by rw [List.length_append]; omega, fun _ => by have h9 := i9 rfl; rw [hx1]; omega, i10, i11, i12, by omega⟩) (by show (List.drop (Int.toNat ((kS s al i))) s).length < s.length; omega) (thXv (v := St' (List.drop (Int.toNat ((kS s al i))) s)) rfl rfl (thXi (b := ((i + 1))) rfl rfl (by omega) (thXv (v := .int .i64 (nd)) rfl rfl (thXe (v := St' ((cU u).2.1 ++ (List.take (Int.toNat ((kS s al i))) s))) (u := St' ((cU (u ++ List.take (Int.toNat ((kS s al i))) s)).2.1)) rfl rfl (congrArg (fun l => St' l) hx2.symm) (thXv (v := rwI .u8 al) rfl rfl (thXe (v := rwG reC ((cU u).1)) (u := rwG reC ((cU (u ++ List.take (Int.toNat ((kS s al i))) s)).1)) rfl rfl (congrArg (rwG reC) hx1.symm) (thNil))))))) runFd1_p8
  unfold hyFd1_p8
  exact hc (kRn (denX rfl)) <|
   hc (kBytesB (bs := ([] : LB)) .nil (denX rfl)) <|
   hc (lnV rfl rfl (by omega)) <|
   hc (gtcT rfl (by omega)) <|
   hc (kRlI (isX rfl) (denX rfl) (by first | omega | (simp <;> omega))) <|
   hc (gtcT rfl (by omega)) <|
   hc (kRem (isX rfl) (isX rfl) (denX rfl) (by omega) (by omega) rfl) <|
   hc (kElI (j := (Int.toNat (i % (al.length : Int)))) (isX rfl) (isX rfl) (denX rfl) (by omega) (by omega)) <|
   hc (kConvF (isX rfl) tu3 (denX rfl) (fI64 (by omega) (by omega))) <|
   hc (adC rfl rfl (by omega)) <|
   hc (kMin (isX rfl) (isX rfl) (denX rfl) rfl) <|
   hc (tkV rfl rfl rfl (by omega)) <|
   hc (kCat (isX rfl) (isX rfl) (denX rfl) (by first | rfl | (simp; done)) (by omega)) <|
   hc (kFit (isX rfl) (by first | omega | (simp <;> omega))) <|
   hc (lnV rfl rfl (by first | omega | (simp <;> omega))) <|
   hc (ltT rfl rfl (by omega)) <|
   hc (kRa0 (f := reC) (isX rfl) (denX rfl)) <|
   hc (kRfG reC_len (isX rfl) (by first | (rw [List.length_append]; omega) | (first | omega | (simp <;> omega))) (by first | (rw [List.length_append]; omega) | (first | omega | (simp <;> omega)))) <|
   hc (drV rfl rfl rfl (by omega)) <|
   hc (adC rfl rfl (by omega)) <|
   hnil
def hyFd1_p9 : LK := [(.rn, .x 2000009), (.bytes [], .x 49), (.len (.x 0), .x 50), (.bin .gtr (.x 50) (.i .i64 (.ofNat 0)), .b false)]
theorem runFd1_p9 : RNFd1_2 hyFd1_p9 (.exit 2) [(0, .x 3), (2000000, .x 2000000), (2000001, .x 2000001)] [(302, 302), (301, 301), (300, 300)] 420 [(10, .p 302 0), (13, .sr 301)] [(2, .r 2000000 5 1 true), (302, .b ⟨53, .l [.i .i64 (.ofNat 65535), .sy 300, .und, .b false], 0, 0, 0, false, false⟩), (300, .t 0 5), (301, .r 2000001 26 4 false)] = true := by kernel_rfl
def hyFd1_p10 : LK := [(.rn, .x 2000006), (.bytes [], .x 50), (.len (.x 0), .x 51), (.bin .gtr (.x 51) (.i .i64 (.ofNat 0)), .b false)]
theorem runFd1_p10 : RNFd1_1 hyFd1_p10 (.exit 2) [(0, .x 3), (2000000, .x 2000000)] [(302, 302), (300, 300)] 420 [(10, .p 302 0), (13, .nils)] [(2, .r 2000000 5 1 true), (302, .b ⟨53, .l [.i .i64 (.ofNat 65535), .sy 300, .und, .b false], 0, 0, 0, false, false⟩), (300, .t 0 5)] = true := by kernel_rfl
def nuEFd1_0 (Sx : LB) (al : List Int) : List Value := []
def roEFd1_0 (Sx : LB) (al : List Int) : List Value := [rwI .u8 al]
noncomputable def EFd1_0 (Sx : LB) (al : List Int) : Cx := cx (nuX (nuEFd1_0 Sx al) (rX (roEFd1_0 Sx al) (fun _ => .bool true))) (nuX_one (nuL_one (l := nuEFd1_0 Sx al) rfl)) 1 laidE laidE_stab
theorem roundsFd1_0 (Sx : LB) (al : List Int) (x0 : Sx.length = 0) (st : Nat × LB × LB × Int × Int) (X : Nat → Value) (hI : InvFd1 Sx al st) : RHFd1 Sx al (EFd1_0 Sx al) (.exit 2) [(10, .p 302 0), (13, .nils)] [(2, .r 2000000 5 1 true), (302, .b ⟨53, .l [.i .i64 (.ofNat 65535), .nils, .und, .b false], 0, 0, 0, false, false⟩)] st X := by
  obtain ⟨tag, s, u, i, nd⟩ := st
  have hI0 := hI
  obtain ⟨i0, i1, i2, i3, i4, i5, i6, i7, i8, i9, i10, i11, i12, it⟩ := unIFd1 Sx al tag s u i nd hI
  rcases (show tag = 0 ∨ tag = 1 ∨ tag = 2 from by omega) with rfl | rfl | rfl
  · skip
    by_cases h0 : 0 < (s.length : Int)
    · by_cases h3 : (cU (List.take (Int.toNat ((kS s al i))) s)).1.length = 0
      · exact nxFd1_p0 Sx al s u i nd X hI0 h0 h3
      · exact nxFd1_p1 Sx al s u i nd X hI0 h0 h3
    · skip
      have hux := sfx i0 (by assumption)
      refine lvFd1_0 Sx al s u i nd (h := hyFd1_p2) rfl ?_ (thXv (v := rwI .u8 al) rfl rfl (thNil)) runFd1_p2
      unfold hyFd1_p2
      exact hc (kRn (denX rfl)) <|
       hc (kBytesB (bs := ([] : LB)) .nil (denX rfl)) <|
       hc (lnV rfl rfl (by omega)) <|
       hc (gtcF rfl (by omega)) <|
       hnil
  · skip
    by_cases h0 : 0 < (s.length : Int)
    · by_cases h2 : ((cU u).2.1.length : Int) + (kS s al i) < nd
      · exact nxFd1_p3 Sx al s u i nd X hI0 h0 h2
      · by_cases h3 : (cU ((cU u).2.1 ++ (List.take (Int.toNat ((kS s al i))) s))).1.length = 0
        · exact nxFd1_p4 Sx al s u i nd X hI0 h0 h2 h3
        · exact nxFd1_p5 Sx al s u i nd X hI0 h0 h2 h3
    · exfalso; have hux := sfx i0 (by assumption); have h := i8 (by decide); rw [hux] at h; omega
  · skip
    by_cases h0 : 0 < (s.length : Int)
    · by_cases h2 : ((cU u).2.1.length : Int) + (kS s al i) < nd
      · exact nxFd1_p8 Sx al s u i nd X hI0 h0 h2
      · by_cases h3 : (cU ((cU u).2.1 ++ (List.take (Int.toNat ((kS s al i))) s))).1.length = 0
        · exact nxFd1_p6 Sx al s u i nd X hI0 h0 h2 h3
        · exact nxFd1_p7 Sx al s u i nd X hI0 h0 h2 h3
    · exfalso; have hux := sfx i0 (by assumption); have h := i8 (by decide); rw [hux] at h; omega
theorem lfOkFd1_0 {l : LF} {h : LH} (Sx : LB) (al : List Int) (x0 : Sx.length = 0) (st : Nat × LB × LB × Int × Int) (hI : InvFd1 Sx al st) (hl : l.hp = some h) (hs : lfSame l h 137 keepFd1 (.exit 2) 1 300 420 = true) {th0 : LA} {sg0 : List (Nat × Nat)} (hth0 : ∀ X, ThOk (cx nu one 1 laidE laidE_stab) (DFd1 Sx al st X) th0) (h0 : startOk l h 137 300 303 th0 sg0 (epFd1 st) (hpFd1 st) = true) {thx : LA} (hthx : ThOk (EFd1_0 Sx al) (cx nu one 1 laidE laidE_stab) thx) (hx : exitOk l h 137 300 420 thx [(10, .p 302 0), (13, .nils)] [(2, .r 2000000 5 1 true), (302, .b ⟨53, .l [.i .i64 (.ofNat 65535), .nils, .und, .b false], 0, 0, 0, false, false⟩)] = true) : LfOk (cx nu one 1 laidE laidE_stab) bodyFd1 l :=
  lfOkX (E := EFd1_0 Sx al) (InvFd1 Sx al) (muFd1 Sx al) (DFd1 Sx al) (fun _ _ => rfl) (fun _ _ => rfl) (fun _ _ => rfl) (fun st X t ht => nuX_keep.trans (rX_keep ((by decide : ∀ t, t ∈ keepFd1 → t < 1000000) t ht))) rfl rfl rfl hl hs ebFd1 rfl rfl st hI hth0 h0 hthx hx (roundsFd1_0 Sx al x0)
def nuEFd1_1 (Sx : LB) (al : List Int) : List Value := [St' ((cU Sx).2.1)]
def roEFd1_1 (Sx : LB) (al : List Int) : List Value := [rwI .u8 al]
noncomputable def EFd1_1 (Sx : LB) (al : List Int) : Cx := cx (nuX (nuEFd1_1 Sx al) (rX (roEFd1_1 Sx al) (fun _ => .bool true))) (nuX_one (nuL_one (l := nuEFd1_1 Sx al) rfl)) 1 laidE laidE_stab
theorem roundsFd1_1 (Sx : LB) (al : List Int) (x0 : ¬ Sx.length = 0) (x1 : (cU Sx).1.length = 0) (st : Nat × LB × LB × Int × Int) (X : Nat → Value) (hI : InvFd1 Sx al st) : RHFd1 Sx al (EFd1_1 Sx al) (.exit 2) [(10, .p 302 0), (13, .nils)] [(2, .r 2000000 5 1 true), (302, .b ⟨53, .l [.i .i64 (.ofNat 65535), .sy 300, .und, .b false], 0, 0, 0, false, false⟩), (300, .t 0 5)] st X := by
  obtain ⟨tag, s, u, i, nd⟩ := st
  have hI0 := hI
  obtain ⟨i0, i1, i2, i3, i4, i5, i6, i7, i8, i9, i10, i11, i12, it⟩ := unIFd1 Sx al tag s u i nd hI
  rcases (show tag = 0 ∨ tag = 1 ∨ tag = 2 from by omega) with rfl | rfl | rfl
  · skip
    by_cases h0 : 0 < (s.length : Int)
    · by_cases h3 : (cU (List.take (Int.toNat ((kS s al i))) s)).1.length = 0
      · exact nxFd1_p0 Sx al s u i nd X hI0 h0 h3
      · exact nxFd1_p1 Sx al s u i nd X hI0 h0 h3
    · exfalso; have hux := sfx i0 (by assumption); have hu0 := i6 rfl; rw [hux] at hu0; exact x0 (by rw [hu0]; rfl)
  · skip
    by_cases h0 : 0 < (s.length : Int)
    · by_cases h2 : ((cU u).2.1.length : Int) + (kS s al i) < nd
      · exact nxFd1_p3 Sx al s u i nd X hI0 h0 h2
      · by_cases h3 : (cU ((cU u).2.1 ++ (List.take (Int.toNat ((kS s al i))) s))).1.length = 0
        · exact nxFd1_p4 Sx al s u i nd X hI0 h0 h2 h3
        · exact nxFd1_p5 Sx al s u i nd X hI0 h0 h2 h3
    · skip
      have hux := sfx i0 (by assumption)
      refine lvFd1_1 Sx al s u i nd (h := hyFd1_p10) rfl ?_ (thXe (v := St' ((cU u).2.1)) (u := St' ((cU Sx).2.1)) rfl rfl (congrArg (fun l => St' l) (by rw [hux])) (thXv (v := rwI .u8 al) rfl rfl (thNil))) runFd1_p10
      unfold hyFd1_p10
      exact hc (kRn (denX rfl)) <|
       hc (kBytesB (bs := ([] : LB)) .nil (denX rfl)) <|
       hc (lnV rfl rfl (by omega)) <|
       hc (gtcF rfl (by omega)) <|
       hnil
  · skip
    by_cases h0 : 0 < (s.length : Int)
    · by_cases h2 : ((cU u).2.1.length : Int) + (kS s al i) < nd
      · exact nxFd1_p8 Sx al s u i nd X hI0 h0 h2
      · by_cases h3 : (cU ((cU u).2.1 ++ (List.take (Int.toNat ((kS s al i))) s))).1.length = 0
        · exact nxFd1_p6 Sx al s u i nd X hI0 h0 h2 h3
        · exact nxFd1_p7 Sx al s u i nd X hI0 h0 h2 h3
    · exfalso; have hux := sfx i0 (by assumption); have h := i9 rfl; rw [hux] at h; exact h x1
theorem lfOkFd1_1 {l : LF} {h : LH} (Sx : LB) (al : List Int) (x0 : ¬ Sx.length = 0) (x1 : (cU Sx).1.length = 0) (st : Nat × LB × LB × Int × Int) (hI : InvFd1 Sx al st) (hl : l.hp = some h) (hs : lfSame l h 137 keepFd1 (.exit 2) 1 300 420 = true) {th0 : LA} {sg0 : List (Nat × Nat)} (hth0 : ∀ X, ThOk (cx nu one 1 laidE laidE_stab) (DFd1 Sx al st X) th0) (h0 : startOk l h 137 300 303 th0 sg0 (epFd1 st) (hpFd1 st) = true) {thx : LA} (hthx : ThOk (EFd1_1 Sx al) (cx nu one 1 laidE laidE_stab) thx) (hx : exitOk l h 137 300 420 thx [(10, .p 302 0), (13, .nils)] [(2, .r 2000000 5 1 true), (302, .b ⟨53, .l [.i .i64 (.ofNat 65535), .sy 300, .und, .b false], 0, 0, 0, false, false⟩), (300, .t 0 5)] = true) : LfOk (cx nu one 1 laidE laidE_stab) bodyFd1 l :=
  lfOkX (E := EFd1_1 Sx al) (InvFd1 Sx al) (muFd1 Sx al) (DFd1 Sx al) (fun _ _ => rfl) (fun _ _ => rfl) (fun _ _ => rfl) (fun st X t ht => nuX_keep.trans (rX_keep ((by decide : ∀ t, t ∈ keepFd1 → t < 1000000) t ht))) rfl rfl rfl hl hs ebFd1 rfl rfl st hI hth0 h0 hthx hx (roundsFd1_1 Sx al x0 x1)
def nuEFd1_2 (Sx : LB) (al : List Int) : List Value := [St' ((cU Sx).2.1)]
def roEFd1_2 (Sx : LB) (al : List Int) : List Value := [rwI .u8 al, rwG reC ((cU Sx).1)]
noncomputable def EFd1_2 (Sx : LB) (al : List Int) : Cx := cx (nuX (nuEFd1_2 Sx al) (rX (roEFd1_2 Sx al) (fun _ => .bool true))) (nuX_one (nuL_one (l := nuEFd1_2 Sx al) rfl)) 1 laidE laidE_stab
theorem roundsFd1_2 (Sx : LB) (al : List Int) (x0 : ¬ (cU Sx).1.length = 0) (st : Nat × LB × LB × Int × Int) (X : Nat → Value) (hI : InvFd1 Sx al st) : RHFd1 Sx al (EFd1_2 Sx al) (.exit 2) [(10, .p 302 0), (13, .sr 301)] [(2, .r 2000000 5 1 true), (302, .b ⟨53, .l [.i .i64 (.ofNat 65535), .sy 300, .und, .b false], 0, 0, 0, false, false⟩), (300, .t 0 5), (301, .r 2000001 26 4 false)] st X := by
  obtain ⟨tag, s, u, i, nd⟩ := st
  have hI0 := hI
  obtain ⟨i0, i1, i2, i3, i4, i5, i6, i7, i8, i9, i10, i11, i12, it⟩ := unIFd1 Sx al tag s u i nd hI
  rcases (show tag = 0 ∨ tag = 1 ∨ tag = 2 from by omega) with rfl | rfl | rfl
  · skip
    by_cases h0 : 0 < (s.length : Int)
    · by_cases h3 : (cU (List.take (Int.toNat ((kS s al i))) s)).1.length = 0
      · exact nxFd1_p0 Sx al s u i nd X hI0 h0 h3
      · exact nxFd1_p1 Sx al s u i nd X hI0 h0 h3
    · exfalso; have hux := sfx i0 (by assumption); have hu0 := i6 rfl; rw [hux] at hu0; exact x0 (by rw [hu0, cU_nil]; rfl)
  · skip
    by_cases h0 : 0 < (s.length : Int)
    · by_cases h2 : ((cU u).2.1.length : Int) + (kS s al i) < nd
      · exact nxFd1_p3 Sx al s u i nd X hI0 h0 h2
      · by_cases h3 : (cU ((cU u).2.1 ++ (List.take (Int.toNat ((kS s al i))) s))).1.length = 0
        · exact nxFd1_p4 Sx al s u i nd X hI0 h0 h2 h3
        · exact nxFd1_p5 Sx al s u i nd X hI0 h0 h2 h3
    · exfalso; have hux := sfx i0 (by assumption); have h := i7 rfl; rw [hux] at h; exact x0 h
  · skip
    by_cases h0 : 0 < (s.length : Int)
    · by_cases h2 : ((cU u).2.1.length : Int) + (kS s al i) < nd
      · exact nxFd1_p8 Sx al s u i nd X hI0 h0 h2
      · by_cases h3 : (cU ((cU u).2.1 ++ (List.take (Int.toNat ((kS s al i))) s))).1.length = 0
        · exact nxFd1_p6 Sx al s u i nd X hI0 h0 h2 h3
        · exact nxFd1_p7 Sx al s u i nd X hI0 h0 h2 h3
    · skip
      have hux := sfx i0 (by assumption)
      refine lvFd1_2 Sx al s u i nd (h := hyFd1_p9) rfl ?_ (thXe (v := St' ((cU u).2.1)) (u := St' ((cU Sx).2.1)) rfl rfl (congrArg (fun l => St' l) (by rw [hux])) (thXv (v := rwI .u8 al) rfl rfl (thXe (v := rwG reC ((cU u).1)) (u := rwG reC ((cU Sx).1)) rfl rfl (congrArg (rwG reC) (by rw [hux])) (thNil)))) runFd1_p9
      unfold hyFd1_p9
      exact hc (kRn (denX rfl)) <|
       hc (kBytesB (bs := ([] : LB)) .nil (denX rfl)) <|
       hc (lnV rfl rfl (by omega)) <|
       hc (gtcF rfl (by omega)) <|
       hnil
theorem lfOkFd1_2 {l : LF} {h : LH} (Sx : LB) (al : List Int) (x0 : ¬ (cU Sx).1.length = 0) (st : Nat × LB × LB × Int × Int) (hI : InvFd1 Sx al st) (hl : l.hp = some h) (hs : lfSame l h 137 keepFd1 (.exit 2) 1 300 420 = true) {th0 : LA} {sg0 : List (Nat × Nat)} (hth0 : ∀ X, ThOk (cx nu one 1 laidE laidE_stab) (DFd1 Sx al st X) th0) (h0 : startOk l h 137 300 303 th0 sg0 (epFd1 st) (hpFd1 st) = true) {thx : LA} (hthx : ThOk (EFd1_2 Sx al) (cx nu one 1 laidE laidE_stab) thx) (hx : exitOk l h 137 300 420 thx [(10, .p 302 0), (13, .sr 301)] [(2, .r 2000000 5 1 true), (302, .b ⟨53, .l [.i .i64 (.ofNat 65535), .sy 300, .und, .b false], 0, 0, 0, false, false⟩), (300, .t 0 5), (301, .r 2000001 26 4 false)] = true) : LfOk (cx nu one 1 laidE laidE_stab) bodyFd1 l :=
  lfOkX (E := EFd1_2 Sx al) (InvFd1 Sx al) (muFd1 Sx al) (DFd1 Sx al) (fun _ _ => rfl) (fun _ _ => rfl) (fun _ _ => rfl) (fun st X t ht => nuX_keep.trans (rX_keep ((by decide : ∀ t, t ∈ keepFd1 → t < 1000000) t ht))) rfl rfl rfl hl hs ebFd1 rfl rfl st hI hth0 h0 hthx hx (roundsFd1_2 Sx al x0)
end Go.Proofs.YtlfmfmegnenohaaDoor.cutterCuts
