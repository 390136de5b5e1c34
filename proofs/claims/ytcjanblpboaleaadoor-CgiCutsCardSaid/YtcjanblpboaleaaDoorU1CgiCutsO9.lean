/- A part of the proof: what an interpreter answers on partly known states is what the program answers. No condition. -/
import Derived.Test.YtcjanblpboaleaaDoorU1CgiCutsO8
set_option maxRecDepth 100000
set_option linter.unusedVariables false
set_option linter.unusedSimpArgs false
set_option maxHeartbeats 4000000
namespace Go.Proofs.YtcjanblpboaleaaDoor.cgiCuts
open Go Go.AX Go.Proofs Go.Proofs.YtcjanblpboaleaaDoor
variable {nu : Nat → Value} {one : ∀ i, i < 1000000 → (nu i).oneCell' = true} {E' : Cx} {x' : Ex} {e' : LA} {h' : LE}
noncomputable def cS : FI := (cD.fn.get 6).getD default
theorem cY : cD.fn.get 6 = some cS := by kernel_rfl
theorem cX : cS.body = some (Tryd.f6.body.getD .skip) := by kernel_rfl
noncomputable def AH : FI := (cD.fn.get 38).getD default
theorem aX3 : cD.fn.get 38 = some AH := by kernel_rfl
theorem aG1 : AH.body = some (Tryd.f38.body.getD .skip) := by kernel_rfl
noncomputable def cz : Code := gi (Tryd.f6.body.getD .skip) 0
theorem cW : gC (di (Tryd.f6.body.getD .skip)) 4 0 0 = true := by kernel_rfl
def cB : List Nat := []
def AY (qb : Nat) : LA := [(0, .p qb 0), (1, .x 0), (6, .x 1)]
def zq (qb : Nat) : LE := [(qb, bk 42 [I6 1000, .x 2, .aL, .aL, I6 0, .s 0 0, .aL, .b false, .b false])]
def xm (qb : Nat) (s x : LB) (t n : Int) : List Value := [St' x, .int .i64 (n), .int .i64 ((t + n)), St' ([] : LB), .int .i64 ((x.length : Int)), .int .u8 (bt x n.toNat), .int .i64 ((t + n) + 1), St' ([u8 (bt x n.toNat)]), .int .u8 (bt x n.toNat), .int .i64 (n + 1), St' ([] : LB), .int .i64 ((x.length : Int)), .int .u8 (bt x n.toNat), .int .i64 ((t + n) + 1), St' (aK ([] : LB)), St' ([] : LB), .int .i64 ((x.length : Int))]
def roFd_0 (qb : Nat) (s x : LB) (t n : Int) : List Value := [af ([] : List LB), af ([] : List LB), af ([] : List LB)]
def jw (qb : Nat) : LA := [(0, .p qb 0), (1, .x 0), (6, .x 1)]
def jh (qb : Nat) : LE := [(qb, bk 42 [I6 1000, .x 2, .sy 40, .aL, I6 0, .s 0 0, .aL, .b false, .b false]), (40, .t 3 5)]
def xl (qb : Nat) (s x : LB) (t n : Int) : List Value := [St' x, .int .i64 (n), .int .i64 ((t + n)), St' (aC s (t + n)), St' ([] : LB), .int .i64 ((x.length : Int)), .int .u8 (bt x n.toNat), .int .i64 ((t + n) + 1), St' ((aC s (t + n)) ++ [u8 (bt x n.toNat)]), .int .i64 (n + 1), St' ([] : LB), .int .i64 ((x.length : Int)), .int .u8 (bt x n.toNat), .int .i64 ((t + n) + 1), St' (aK (aC s (t + n))), St' ([] : LB), .int .i64 ((x.length : Int)), .int .u8 (bt x n.toNat), .int .i64 ((t + n) + 1), St' (aK (aC s (t + n))), .int .u8 (bt (aK (aC s (t + n))) 0), St' ([] : LB), .int .i64 ((x.length : Int)), .int .u8 (bt x n.toNat), .int .i64 ((t + n) + 1), St' (aK (aC s (t + n))), .int .u8 (bt (aK (aC s (t + n))) 0), St' ([] : LB), .int .i64 ((x.length : Int)), .int .u8 (bt x n.toNat), .int .i64 ((t + n) + 1), St' (aK (aC s (t + n))), .int .u8 (bt (aK (aC s (t + n))) 0), .int .i64 ((pC (aK (aC s (t + n))))), St' (pM (pK (aK (aC s (t + n))))), St' ([] : LB), .int .i64 ((x.length : Int)), .int .u8 (bt x n.toNat), .int .i64 ((t + n) + 1), St' (aK (aC s (t + n))), .int .u8 (bt (aK (aC s (t + n))) 0), .int .i64 ((pC (aK (aC s (t + n))))), St' (pM (pK (aK (aC s (t + n))))), St' ([] : LB), .int .i64 ((x.length : Int)), .int .u8 (bt x n.toNat), .int .i64 ((t + n) + 1), St' (aK (aC s (t + n))), .int .u8 (bt (aK (aC s (t + n))) 0), St' (pA (aK (aC s (t + n)))), St' (pB (aK (aC s (t + n)))), .int .i64 (n + 1), St' ([] : LB), .int .i64 ((x.length : Int)), .int .u8 (bt x n.toNat), .int .i64 ((t + n) + 1), St' ([] : LB), .int .i64 ((x.length : Int))]
def roFd_1 (qb : Nat) (s x : LB) (t n : Int) : List Value := [af ([] : List LB), af ([] : List LB), af ([] : List LB), af ([] : List LB), af ([] : List LB), af ([] : List LB), af ([] : List LB), aN aO (([] : List (LB × LB)) ++ [((pA (aK (aC s (t + n)))), (pB (aK (aC s (t + n)))))]), af ([] : List LB), af ([] : List LB)]
def gQ (qb : Nat) : LA := [(0, .p qb 0), (1, .x 0), (6, .x 1)]
def gJ (qb : Nat) : LE := [(qb, bk 42 [I6 1000, .x 2, .sy 40, .sr 41, I6 0, .s 0 0, .aL, .b false, .b false]), (40, .t 3 5), (41, .r 2000000 50 2 false)]
def xk (qb : Nat) (s x : LB) (t n : Int) : List Value := [St' x, .int .i64 (n), .int .i64 ((t + n)), St' (aC s (t + n)), St' ([] : LB), .int .i64 ((x.length : Int)), .int .u8 (bt x n.toNat), .int .i64 ((t + n) + 1), St' ((aC s (t + n)) ++ [u8 (bt x n.toNat)]), .int .i64 (n + 1), St' ([] : LB), .int .i64 ((x.length : Int)), .int .u8 (bt x n.toNat), .int .i64 ((t + n) + 1), St' (aK (aC s (t + n))), .int .i64 ((ec (aR s (t + n)))), St' (eZ (aR s (t + n))), .int .i64 (((aR s (t + n)).length : Int)), .int .i64 (n + 1), St' (List.drop (Int.toNat (n + 1)) x), St' ([] : LB), .int .i64 ((x.length : Int)), .int .u8 (bt x n.toNat), .int .i64 ((t + n) + 1), St' (aK (aC s (t + n))), .int .u8 (bt (aK (aC s (t + n))) 0), St' ([] : LB), .int .i64 ((x.length : Int)), .int .u8 (bt x n.toNat), .int .i64 ((t + n) + 1), St' (aK (aC s (t + n))), .int .u8 (bt (aK (aC s (t + n))) 0), St' ([] : LB), .int .i64 ((x.length : Int)), .int .u8 (bt x n.toNat), .int .i64 ((t + n) + 1), St' (aK (aC s (t + n))), .int .u8 (bt (aK (aC s (t + n))) 0), .int .i64 ((pC (aK (aC s (t + n))))), St' (pM (pK (aK (aC s (t + n))))), St' ([] : LB), .int .i64 ((x.length : Int)), .int .u8 (bt x n.toNat), .int .i64 ((t + n) + 1), St' (aK (aC s (t + n))), .int .u8 (bt (aK (aC s (t + n))) 0), .int .i64 ((pC (aK (aC s (t + n))))), St' (pM (pK (aK (aC s (t + n))))), St' ([] : LB), .int .i64 ((x.length : Int)), .int .u8 (bt x n.toNat), .int .i64 ((t + n) + 1), St' (aK (aC s (t + n))), .int .u8 (bt (aK (aC s (t + n))) 0), St' (pA (aK (aC s (t + n)))), St' (pB (aK (aC s (t + n)))), .int .i64 (((aR s (t + n)).length : Int) + 1), .int .i64 (n + 1), St' ([] : LB), .int .i64 ((x.length : Int)), .int .u8 (bt x n.toNat), .int .i64 ((t + n) + 1), St' (aK (aC s (t + n))), St' (eM (aR s (t + n))), St' ([] : LB), .int .i64 ((x.length : Int)), .int .u8 (bt x n.toNat), .int .i64 ((t + n) + 1), St' (aK (aC s (t + n))), .int .i64 ((ec (aR s (t + n)))), St' (eZ (aR s (t + n))), .int .i64 (((aR s (t + n)).length : Int)), .int .i64 (n + 1), St' (List.drop (Int.toNat (n + 1)) x), St' ([] : LB), .int .i64 ((x.length : Int)), .int .u8 (bt x n.toNat), .int .i64 ((t + n) + 1), St' (aK (aC s (t + n))), .int .u8 (bt (aK (aC s (t + n))) 0), St' (pA (aK (aC s (t + n)))), St' (pB (aK (aC s (t + n)))), .int .i64 (((aR s (t + n)).length : Int) + 1), St' ([] : LB), .int .i64 ((x.length : Int)), St' ([] : LB), .int .i64 ((x.length : Int)), .int .u8 (bt x n.toNat), .int .i64 ((t + n) + 1)]
def roFd_2 (qb : Nat) (s x : LB) (t n : Int) : List Value := [aN aO (aR s (t + n)), af ([] : List LB), af ([] : List LB), af ([] : List LB), af ([] : List LB), af ([] : List LB), af ([] : List LB), af ([] : List LB), aN aO ((aR s (t + n)) ++ [((pA (aK (aC s (t + n)))), (pB (aK (aC s (t + n)))))]), af ([] : List LB), af ([] : List LB), aN aO (dC (aw) (aR s (t + n))), af ([] : List LB), aN aO ((aR s (t + n)) ++ [((pA (aK (aC s (t + n)))), (pB (aK (aC s (t + n)))))]), af ([] : List LB), af ([] : List LB)]
def jI (qb : Nat) (st : Nat × Int) : LA := if st.1 = 0 then (AY qb) else if st.1 = 1 then (jw qb) else (gQ qb)
def kR (qb : Nat) (st : Nat × Int) : LE := if st.1 = 0 then (zq qb) else if st.1 = 1 then (jh qb) else (gJ qb)
def nuFd (qb : Nat) (s x : LB) (t : Int) (st : Nat × Int) : List Value := if st.1 = 0 then xm qb s x t (st.2) else if st.1 = 1 then xl qb s x t (st.2) else xk qb s x t (st.2)
def roFd (qb : Nat) (s x : LB) (t : Int) (st : Nat × Int) : List Value := if st.1 = 0 then roFd_0 qb s x t (st.2) else if st.1 = 1 then roFd_1 qb s x t (st.2) else roFd_2 qb s x t (st.2)
theorem onFd (qb : Nat) (s x : LB) (t : Int) (st : Nat × Int) : ∀ j, (bA (nuFd qb s x t st) j).oneCell' = true := by
 intro j
 unfold nuFd
 by_cases g0 : st.1 = 0
 ·rw [if_pos g0]; exact aV (l := xm qb s x t (st.2)) rfl j
 rw [if_neg g0]
 by_cases g1 : st.1 = 1
 ·rw [if_pos g1]; exact aV (l := xl qb s x t (st.2)) rfl j
 rw [if_neg g1]
 exact aV (l := xk qb s x t (st.2)) rfl j
theorem qY (qb : Nat) (st : Nat × Int) : (dX ((jI qb) st) && ef cB) = true := by
 unfold jI
 by_cases g0 : st.1 = 0
 ·rw [if_pos g0]; rfl
 rw [if_neg g0]
 by_cases g1 : st.1 = 1
 ·rw [if_pos g1]; rfl
 rw [if_neg g1]
 rfl
noncomputable def kq (qb : Nat) (s x : LB) (t : Int) (st : Nat × Int) (X : Nat → Value) : Cx := cx (bG (nuFd qb s x t st) (rX (roFd qb s x t st) X)) (bJ (onFd qb s x t st)) 1 aH aQ
abbrev CjFd (qb : Nat) (s x : LB) (t : Int) (tag : Nat) (n : Int) : Prop := (0 ≤ n) ∧ (n ≤ (x.length : Int)) ∧ (wG s (t + n) = 0) ∧ (tag = 0 → t + n = 0) ∧ (1 ≤ tag → 1 ≤ t + n) ∧ (tag = 1 → aR s (t + n) = []) ∧ (tag = 2 → ¬ aR s (t + n) = []) ∧ (tag < 3)
def cO (qb : Nat) (s x : LB) (t : Int) (st : Nat × Int) : Prop := CjFd qb s x t st.1 (st.2)
theorem gd {qb : Nat} {s x : LB} {t : Int} {tag : Nat} {n : Int} (h : CjFd qb s x t tag n) : cO qb s x t (tag, n) := h
theorem dF (qb : Nat) (s x : LB) (t : Int) (tag : Nat) (n : Int) (h : cO qb s x t (tag, n)) : CjFd qb s x t tag n := h
def iF (qb : Nat) (s x : LB) (t : Int) (st : Nat × Int) : Nat := (x.length - (st.2).toNat)
abbrev eU (qb : Nat) (s x : LB) (t : Int) (E' : Cx) (ex' : Ex) (epx' : LA) (hpx' : LE) (st : Nat × Int) (X : Nat → Value) : Prop := bj E' cz cB 58 ex' 4 40 42 904 (jI qb) (kR qb) epx' hpx' (cO qb s x t) (iF qb s x t) (kq qb s x t) st X
noncomputable abbrev nP (qb : Nat) (s x : LB) (t n : Int) (X : Nat → Value) : Cx := cx (bG (xm qb s x t n) (rX (roFd_0 qb s x t n) X)) (bJ (aV (l := xm qb s x t n) rfl)) 1 aH aQ
theorem lLFd_0 {qb : Nat} {s x : LB} {t n : Int} {X : Nat → Value} {tb : Tab} {L : List LF} {th : LA} {sg : List (Nat × Nat)} (hne : cn x' .normal = false) (hall : aq (nP qb s x t n X) tb) (hlp : bV (nP qb s x t n X) L cz) (aW : tb.ng = 4) (ht : bE (nP qb s x t n X) E' th) (run : bP (code tb 6000 L cz (bD (bH (AY qb) cB) 58) ⟨ae (zq qb) .leaf, 42, 0, 0⟩) x' cB 58 904 th sg 40 904 e' h' = true) : eU qb s x t E' x' e' h' (0, n) X :=
 bj.leave (tb := tb) (L := L) (f := 6000) hall hlp aW hne ht run
noncomputable abbrev A7 (qb : Nat) (h : LK) (x : Ex) (th : LA) (sg : List (Nat × Nat)) (m : Nat) (ep : LA) (hp : LE) : Bool := bP (code (aT h) 6000 [] cz (bD (bH (AY qb) cB) 58) ⟨ae (zq qb) .leaf, 42, 0, 0⟩) x cB 58 904 th sg 40 m ep hp
theorem stFd_0 {qb : Nat} {s x : LB} {t n : Int} {X : Nat → Value} {h : LK} (y : Nat × Int) {th : LA} {sg : List (Nat × Nat)} (ho : ∀ a' r', (a', r') ∈ h → aM (nP qb s x t n X) a' r') (hy : cO qb s x t y) (lt : iF qb s x t y < iF qb s x t (0, n)) (ht : bE (nP qb s x t n X) (kq qb s x t y X) th) (run : (A7 qb) h .normal th sg 42 ((jI qb) y) ((kR qb) y) = true) : eU qb s x t E' x' e' h' (0, n) X :=
 bj.next (tb := aT h) (L := []) (f := 6000) y ((ab _ _).hyps ho) (bV.nil _) rfl hy lt ht run
theorem lvFd_0 {qb : Nat} {s x : LB} {t n : Int} {X : Nat → Value} {h : LK} {th : LA} {sg : List (Nat × Nat)} (hne : cn x' .normal = false) (ho : ∀ a' r', (a', r') ∈ h → aM (nP qb s x t n X) a' r') (ht : bE (nP qb s x t n X) E' th) (run : (A7 qb) h x' th sg 904 e' h' = true) : eU qb s x t E' x' e' h' (0, n) X :=
 bj.leave (tb := aT h) (L := []) (f := 6000) ((ab _ _).hyps ho) (bV.nil _) rfl hne ht run
noncomputable abbrev iU (qb : Nat) (s x : LB) (t n : Int) (X : Nat → Value) : Cx := cx (bG (xl qb s x t n) (rX (roFd_1 qb s x t n) X)) (bJ (aV (l := xl qb s x t n) rfl)) 1 aH aQ
theorem pj {qb : Nat} {s x : LB} {t n : Int} {X : Nat → Value} {tb : Tab} {L : List LF} {th : LA} {sg : List (Nat × Nat)} (hne : cn x' .normal = false) (hall : aq (iU qb s x t n X) tb) (hlp : bV (iU qb s x t n X) L cz) (aW : tb.ng = 4) (ht : bE (iU qb s x t n X) E' th) (run : bP (code tb 6000 L cz (bD (bH (jw qb) cB) 58) ⟨ae (jh qb) .leaf, 42, 0, 0⟩) x' cB 58 904 th sg 40 904 e' h' = true) : eU qb s x t E' x' e' h' (1, n) X :=
 bj.leave (tb := tb) (L := L) (f := 6000) hall hlp aW hne ht run
noncomputable abbrev qj (qb : Nat) (h : LK) (x : Ex) (th : LA) (sg : List (Nat × Nat)) (m : Nat) (ep : LA) (hp : LE) : Bool := bP (code (aT h) 6000 [] cz (bD (bH (jw qb) cB) 58) ⟨ae (jh qb) .leaf, 42, 0, 0⟩) x cB 58 904 th sg 40 m ep hp
theorem stFd_1 {qb : Nat} {s x : LB} {t n : Int} {X : Nat → Value} {h : LK} (y : Nat × Int) {th : LA} {sg : List (Nat × Nat)} (ho : ∀ a' r', (a', r') ∈ h → aM (iU qb s x t n X) a' r') (hy : cO qb s x t y) (lt : iF qb s x t y < iF qb s x t (1, n)) (ht : bE (iU qb s x t n X) (kq qb s x t y X) th) (run : (qj qb) h .normal th sg 42 ((jI qb) y) ((kR qb) y) = true) : eU qb s x t E' x' e' h' (1, n) X :=
 bj.next (tb := aT h) (L := []) (f := 6000) y ((ab _ _).hyps ho) (bV.nil _) rfl hy lt ht run
theorem lvFd_1 {qb : Nat} {s x : LB} {t n : Int} {X : Nat → Value} {h : LK} {th : LA} {sg : List (Nat × Nat)} (hne : cn x' .normal = false) (ho : ∀ a' r', (a', r') ∈ h → aM (iU qb s x t n X) a' r') (ht : bE (iU qb s x t n X) E' th) (run : (qj qb) h x' th sg 904 e' h' = true) : eU qb s x t E' x' e' h' (1, n) X :=
 bj.leave (tb := aT h) (L := []) (f := 6000) ((ab _ _).hyps ho) (bV.nil _) rfl hne ht run
noncomputable abbrev fu (qb : Nat) (s x : LB) (t n : Int) (X : Nat → Value) : Cx := cx (bG (xk qb s x t n) (rX (roFd_2 qb s x t n) X)) (bJ (aV (l := xk qb s x t n) rfl)) 1 aH aQ
theorem lS {qb : Nat} {s x : LB} {t n : Int} {X : Nat → Value} {tb : Tab} {L : List LF} {th : LA} {sg : List (Nat × Nat)} (hne : cn x' .normal = false) (hall : aq (fu qb s x t n X) tb) (hlp : bV (fu qb s x t n X) L cz) (aW : tb.ng = 4) (ht : bE (fu qb s x t n X) E' th) (run : bP (code tb 6000 L cz (bD (bH (gQ qb) cB) 58) ⟨ae (gJ qb) .leaf, 42, 0, 0⟩) x' cB 58 904 th sg 40 904 e' h' = true) : eU qb s x t E' x' e' h' (2, n) X :=
 bj.leave (tb := tb) (L := L) (f := 6000) hall hlp aW hne ht run
noncomputable abbrev qi (qb : Nat) (h : LK) (x : Ex) (th : LA) (sg : List (Nat × Nat)) (m : Nat) (ep : LA) (hp : LE) : Bool := bP (code (aT h) 6000 [] cz (bD (bH (gQ qb) cB) 58) ⟨ae (gJ qb) .leaf, 42, 0, 0⟩) x cB 58 904 th sg 40 m ep hp
theorem stFd_2 {qb : Nat} {s x : LB} {t n : Int} {X : Nat → Value} {h : LK} (y : Nat × Int) {th : LA} {sg : List (Nat × Nat)} (ho : ∀ a' r', (a', r') ∈ h → aM (fu qb s x t n X) a' r') (hy : cO qb s x t y) (lt : iF qb s x t y < iF qb s x t (2, n)) (ht : bE (fu qb s x t n X) (kq qb s x t y X) th) (run : (qi qb) h .normal th sg 42 ((jI qb) y) ((kR qb) y) = true) : eU qb s x t E' x' e' h' (2, n) X :=
 bj.next (tb := aT h) (L := []) (f := 6000) y ((ab _ _).hyps ho) (bV.nil _) rfl hy lt ht run
theorem lvFd_2 {qb : Nat} {s x : LB} {t n : Int} {X : Nat → Value} {h : LK} {th : LA} {sg : List (Nat × Nat)} (hne : cn x' .normal = false) (ho : ∀ a' r', (a', r') ∈ h → aM (fu qb s x t n X) a' r') (ht : bE (fu qb s x t n X) E' th) (run : (qi qb) h x' th sg 904 e' h' = true) : eU qb s x t E' x' e' h' (2, n) X :=
 bj.leave (tb := aT h) (L := []) (f := 6000) ((ab _ _).hyps ho) (bV.nil _) rfl hne ht run
def FJ : LK := [(.bytes [], .x 3), (.len (.x 0), .x 4), (.bin .lss (.x 1) (.x 4), .b true), (.idx (.x 0) (.x 1), .x 5), (.bin .add (.x 2) (I6 1), .x 6), (.bin .gtr (.x 6) (I6 1000), .b false), (.bin .neq (.x 5) (.i .u8 (.ofNat 10)), .b true), (.app (.x 3) [.x 5], .x 7), (.gy (.x 7) (I6 0), .x 8), (.fit (.x 7), .b true), (.bin .add (.x 1) (I6 1), .x 9)]
theorem runFd_p0 {qb : Nat} (hq : qb = 4 ∨ qb = 5 ∨ qb = 6) : (A7 qb) FJ .normal [(0, .x 0), (1, .x 9), (2, .x 6), (3, .x 7)] [(40, 43)] 42 (jw qb) (jh qb) = true := by rcases hq with rfl | rfl | rfl <;> kernel_rfl
def FH : LK := [(.bytes [], .x 10), (.len (.x 0), .x 11), (.bin .lss (.x 1) (.x 11), .b true), (.idx (.x 0) (.x 1), .x 12), (.bin .add (.x 2) (I6 1), .x 13), (.bin .gtr (.x 13) (I6 1000), .b false), (.bin .neq (.x 12) (.i .u8 (.ofNat 10)), .b false), (.call 25 [.x 10, .s 1 13], .x 14), (.bin .eql (.x 14) (.s 0 0), .b true)]
def lh8 : LH := ⟨4, 694, 744, [(42, bk 40 [I6 0])], []⟩
def lf8 : LF := ⟨8888888, 0, [(0, .aZ 63 (.ag [I6 10, .s 25 fK])), (1, .aZ 46 (.p 42 0))], [], .normal, [(0, .b true)], some lh8⟩
noncomputable def aQ6 : Tab := bL ((aT FH)) 15 fV [lf8]
def LFd_p1 : List LF := []
theorem runFd_p1 {qb : Nat} (hq : qb = 4 ∨ qb = 5 ∨ qb = 6) : bP (code aQ6 6000 LFd_p1 cz (bD (bH (AY qb) cB) 58) ⟨ae (zq qb) .leaf, 42, 0, 0⟩) .ret cB 58 904 [(0, I6 10), (1, .s 25 fK)] [] 40 904 [(4, .s 0 0), (5, .aZ 63 (.ag [.x 0, .x 1]))] [] = true := by rcases hq with rfl | rfl | rfl <;> kernel_rfl
def E7 : LK := [(.len (.x 0), .x 5), (.bin .lss (.x 1) (.x 5), .b true), (.idx (.x 0) (.x 1), .x 6), (.bin .add (.x 2) (I6 1), .x 7), (.bin .gtr (.x 7) (I6 1000), .b false), (.bin .neq (.x 6) (.i .u8 (.ofNat 10)), .b true), (.app (.x 3) [.x 6], .x 8), (.fit (.x 8), .b true), (.bin .add (.x 1) (I6 1), .x 9)]
theorem runFd_p2 {qb : Nat} (hq : qb = 4 ∨ qb = 5 ∨ qb = 6) : (qj qb) E7 .normal [(0, .x 0), (1, .x 9), (2, .x 7), (3, .x 8)] [(40, 43)] 42 (jw qb) (jh qb) = true := by rcases hq with rfl | rfl | rfl <;> kernel_rfl
def E0 : LK := [(.bytes [], .x 10), (.len (.x 0), .x 11), (.bin .lss (.x 1) (.x 11), .b true), (.idx (.x 0) (.x 1), .x 12), (.bin .add (.x 2) (I6 1), .x 13), (.bin .gtr (.x 13) (I6 1000), .b false), (.bin .neq (.x 12) (.i .u8 (.ofNat 10)), .b false), (.call 25 [.x 3, .s 1 13], .x 14), (.bin .eql (.x 14) (.s 0 0), .b true)]
def lh9 : LH := ⟨4, 694, 744, [(43, bk 40 [I6 0])], []⟩
def lf9 : LF := ⟨8888888, 0, [(0, .aZ 63 (.ag [I6 10, .s 25 fK])), (1, .aZ 46 (.p 43 0))], [], .normal, [(0, .b true)], some lh9⟩
noncomputable def aQ5 : Tab := bL ((aT E0)) 15 fV [lf9]
def LFd_p3 : List LF := []
theorem runFd_p3 {qb : Nat} (hq : qb = 4 ∨ qb = 5 ∨ qb = 6) : bP (code aQ5 6000 LFd_p3 cz (bD (bH (jw qb) cB) 58) ⟨ae (jh qb) .leaf, 42, 0, 0⟩) .ret cB 58 904 [(0, I6 10), (1, .s 25 fK)] [] 40 904 [(4, .s 0 0), (5, .aZ 63 (.ag [.x 0, .x 1]))] [] = true := by rcases hq with rfl | rfl | rfl <;> kernel_rfl
def Ez : LK := [(.bytes [], .x 15), (.len (.x 0), .x 16), (.bin .lss (.x 1) (.x 16), .b true), (.idx (.x 0) (.x 1), .x 17), (.bin .add (.x 2) (I6 1), .x 18), (.bin .gtr (.x 18) (I6 1000), .b false), (.bin .neq (.x 17) (.i .u8 (.ofNat 10)), .b false), (.call 25 [.x 3, .s 1 13], .x 19), (.bin .eql (.x 19) (.s 0 0), .b false), (.idx (.x 19) (I6 0), .x 20), (.bin .eql (.x 20) (.i .u8 (.ofNat 32)), .b true)]
def lf10 : LF := ⟨8888888, 0, [(0, .aZ 63 (.ag [I6 10, .s 31 dc])), (1, .aZ 46 (.p 43 0))], [], .normal, [(0, .b true)], some lh9⟩
noncomputable def aQ4 : Tab := bL ((aT Ez)) 15 fV [lf10]
def LFd_p4 : List LF := []
theorem runFd_p4 {qb : Nat} (hq : qb = 4 ∨ qb = 5 ∨ qb = 6) : bP (code aQ4 6000 LFd_p4 cz (bD (bH (jw qb) cB) 58) ⟨ae (jh qb) .leaf, 42, 0, 0⟩) .ret cB 58 904 [(0, I6 10), (1, .s 31 dc)] [] 40 904 [(4, .s 0 0), (5, .aZ 63 (.ag [.x 0, .x 1]))] [] = true := by rcases hq with rfl | rfl | rfl <;> kernel_rfl
def Ey : LK := [(.bytes [], .x 21), (.len (.x 0), .x 22), (.bin .lss (.x 1) (.x 22), .b true), (.idx (.x 0) (.x 1), .x 23), (.bin .add (.x 2) (I6 1), .x 24), (.bin .gtr (.x 24) (I6 1000), .b false), (.bin .neq (.x 23) (.i .u8 (.ofNat 10)), .b false), (.call 25 [.x 3, .s 1 13], .x 25), (.bin .eql (.x 25) (.s 0 0), .b false), (.idx (.x 25) (I6 0), .x 26), (.bin .eql (.x 26) (.i .u8 (.ofNat 32)), .b false), (.bin .eql (.x 26) (.i .u8 (.ofNat 9)), .b true)]
noncomputable def aQ3 : Tab := bL ((aT Ey)) 15 fV [lf10]
def LFd_p5 : List LF := []
theorem runFd_p5 {qb : Nat} (hq : qb = 4 ∨ qb = 5 ∨ qb = 6) : bP (code aQ3 6000 LFd_p5 cz (bD (bH (jw qb) cB) 58) ⟨ae (jh qb) .leaf, 42, 0, 0⟩) .ret cB 58 904 [(0, I6 10), (1, .s 31 dc)] [] 40 904 [(4, .s 0 0), (5, .aZ 63 (.ag [.x 0, .x 1]))] [] = true := by rcases hq with rfl | rfl | rfl <;> kernel_rfl
def Ew : LK := [(.bytes [], .x 27), (.len (.x 0), .x 28), (.bin .lss (.x 1) (.x 28), .b true), (.idx (.x 0) (.x 1), .x 29), (.bin .add (.x 2) (I6 1), .x 30), (.bin .gtr (.x 30) (I6 1000), .b false), (.bin .neq (.x 29) (.i .u8 (.ofNat 10)), .b false), (.call 25 [.x 3, .s 1 13], .x 31), (.bin .eql (.x 31) (.s 0 0), .b false), (.idx (.x 31) (I6 0), .x 32), (.bin .eql (.x 32) (.i .u8 (.ofNat 32)), .b false), (.bin .eql (.x 32) (.i .u8 (.ofNat 9)), .b false), (.call 39 [.x 31], .tu [.ag [.s 0 0, .s 0 0], .aZ 63 (.ag [.x 33, .x 34])]), (.eq 40 (.x 33) (I6 10), .b true)]
def yk : LH := ⟨4, 694, 744, [(45, bk 40 [I6 0])], []⟩
def lf12 : LF := ⟨8888888, 0, [(0, .aZ 63 (.ag [.x 33, .x 34])), (1, .aZ 46 (.p 45 0))], [], .normal, [(0, .b true)], some yk⟩
noncomputable def aQ2 : Tab := bL ((aT Ew)) 15 fV [lf12]
def LFd_p6 : List LF := []
theorem runFd_p6 {qb : Nat} (hq : qb = 4 ∨ qb = 5 ∨ qb = 6) : bP (code aQ2 6000 LFd_p6 cz (bD (bH (jw qb) cB) 58) ⟨ae (jh qb) .leaf, 42, 0, 0⟩) .ret cB 58 904 [(0, .x 33), (1, .x 34)] [] 40 904 [(4, .s 0 0), (5, .aZ 63 (.ag [.x 0, .x 1]))] [] = true := by rcases hq with rfl | rfl | rfl <;> kernel_rfl
def Ev : LK := [(.bytes [], .x 35), (.len (.x 0), .x 36), (.bin .lss (.x 1) (.x 36), .b true), (.idx (.x 0) (.x 1), .x 37), (.bin .add (.x 2) (I6 1), .x 38), (.bin .gtr (.x 38) (I6 1000), .b false), (.bin .neq (.x 37) (.i .u8 (.ofNat 10)), .b false), (.call 25 [.x 3, .s 1 13], .x 39), (.bin .eql (.x 39) (.s 0 0), .b false), (.idx (.x 39) (I6 0), .x 40), (.bin .eql (.x 40) (.i .u8 (.ofNat 32)), .b false), (.bin .eql (.x 40) (.i .u8 (.ofNat 9)), .b false), (.call 39 [.x 39], .tu [.ag [.s 0 0, .s 0 0], .aZ 63 (.ag [.x 41, .x 42])]), (.eq 40 (.x 41) (I6 10), .b false), (.eq 40 (.x 41) (I6 12), .b true)]
def pc : LH := ⟨4, 694, 744, [(46, bk 40 [I6 0])], []⟩
def lf13 : LF := ⟨8888888, 0, [(0, .aZ 63 (.ag [.x 41, .x 42])), (1, .aZ 46 (.p 46 0))], [], .normal, [(0, .b true)], some pc⟩
noncomputable def aQ1 : Tab := bL ((aT Ev)) 15 fV [lf13]
def LFd_p7 : List LF := []
theorem runFd_p7 {qb : Nat} (hq : qb = 4 ∨ qb = 5 ∨ qb = 6) : bP (code aQ1 6000 LFd_p7 cz (bD (bH (jw qb) cB) 58) ⟨ae (jh qb) .leaf, 42, 0, 0⟩) .ret cB 58 904 [(0, .x 41), (1, .x 42)] [] 40 904 [(4, .s 0 0), (5, .aZ 63 (.ag [.x 0, .x 1]))] [] = true := by rcases hq with rfl | rfl | rfl <;> kernel_rfl
def Eu : LK := [(.rn, .x 2000006), (.bytes [], .x 43), (.len (.x 0), .x 44), (.bin .lss (.x 1) (.x 44), .b true), (.idx (.x 0) (.x 1), .x 45), (.bin .add (.x 2) (I6 1), .x 46), (.bin .gtr (.x 46) (I6 1000), .b false), (.bin .neq (.x 45) (.i .u8 (.ofNat 10)), .b false), (.call 25 [.x 3, .s 1 13], .x 47), (.bin .eql (.x 47) (.s 0 0), .b false), (.idx (.x 47) (I6 0), .x 48), (.bin .eql (.x 48) (.i .u8 (.ofNat 32)), .b false), (.bin .eql (.x 48) (.i .u8 (.ofNat 9)), .b false), (.call 39 [.x 47], .tu [.ag [.x 49, .x 50], .ni]), (.ra (.x 2000006) [.x 49, .x 50], .x 2000007), (.rf (.x 2000007) 2 32, .b true), (.rl (.x 2000007) 2, I6 1), (.bin .add (.x 1) (I6 1), .x 51)]
theorem runFd_p8 {qb : Nat} (hq : qb = 4 ∨ qb = 5 ∨ qb = 6) : (qj qb) Eu .normal [(0, .x 0), (1, .x 51), (2, .x 46), (3, .x 43), (2000000, .x 2000007)] [(40, 42), (41, 45)] 42 (gQ qb) (gJ qb) = true := by rcases hq with rfl | rfl | rfl <;> kernel_rfl
def Et : LK := [(.len (.x 0), .x 5), (.bin .lss (.x 1) (.x 5), .b true), (.idx (.x 0) (.x 1), .x 6), (.bin .add (.x 2) (I6 1), .x 7), (.bin .gtr (.x 7) (I6 1000), .b false), (.bin .neq (.x 6) (.i .u8 (.ofNat 10)), .b true), (.app (.x 3) [.x 6], .x 8), (.fit (.x 8), .b true), (.bin .add (.x 1) (I6 1), .x 9)]
theorem runFd_p9 {qb : Nat} (hq : qb = 4 ∨ qb = 5 ∨ qb = 6) : (qi qb) Et .normal [(0, .x 0), (1, .x 9), (2, .x 7), (3, .x 8), (2000000, .x 2000000)] [(40, 43), (41, 41)] 42 (gQ qb) (gJ qb) = true := by rcases hq with rfl | rfl | rfl <;> kernel_rfl
def FG : LK := [(.bytes [], .x 10), (.len (.x 0), .x 11), (.bin .lss (.x 1) (.x 11), .b true), (.idx (.x 0) (.x 1), .x 12), (.bin .add (.x 2) (I6 1), .x 13), (.bin .gtr (.x 13) (I6 1000), .b false), (.bin .neq (.x 12) (.i .u8 (.ofNat 10)), .b false), (.call 25 [.x 3, .s 1 13], .x 14), (.bin .eql (.x 14) (.s 0 0), .b true), (.rl (.x 2000000) 2, .x 17), (.bin .add (.x 1) (I6 1), .x 18), (.sub (.x 0) (some (.x 18)) none, .x 19)]
def pb : LH := ⟨4, 124, 424, [(41, .r 2000000 50 2 false)], [(41, .r 2000000 50 2 false)]⟩
def lf38 : LF := ⟨8888888, 0, [(0, .sr 41)], [], .normal, [(0, .tu [.x 15, .x 16, .ni])], some pb⟩
def lh39 : LH := ⟨4, 604, 644, [(41, .r 2000000 50 2 false)], [(41, .r 2000000 50 2 false)]⟩
def lf39 : LF := ⟨3, 25, [(1, .s 6 dE), (5, .aL), (8, .sr 41), (10, I6 0), (9, .x 17)], [], (.exit 0), [(5, .aL)], some lh39⟩
noncomputable def aI9 : Tab := bL (bL ((aT FG)) 37 qP [lf38]) 38 AH [lf39]
def bA3 : List LF := []
theorem runFd_p10 {qb : Nat} (hq : qb = 4 ∨ qb = 5 ∨ qb = 6) : bP (code aI9 6000 bA3 cz (bD (bH (gQ qb) cB) 58) ⟨ae (gJ qb) .leaf, 42, 0, 0⟩) .ret cB 58 904 [(0, .x 19), (1, .x 15), (2, .x 16)] [] 40 904 [(4, .x 0), (5, .ni)] [(qb, bk 42 [.und, .und, .und, .und, .x 1, .x 2, .aL, .b true, .b false])] = true := by rcases hq with rfl | rfl | rfl <;> kernel_rfl
def FF : LK := [(.bytes [], .x 20), (.len (.x 0), .x 21), (.bin .lss (.x 1) (.x 21), .b true), (.idx (.x 0) (.x 1), .x 22), (.bin .add (.x 2) (I6 1), .x 23), (.bin .gtr (.x 23) (I6 1000), .b false), (.bin .neq (.x 22) (.i .u8 (.ofNat 10)), .b false), (.call 25 [.x 3, .s 1 13], .x 24), (.bin .eql (.x 24) (.s 0 0), .b false), (.idx (.x 24) (I6 0), .x 25), (.bin .eql (.x 25) (.i .u8 (.ofNat 32)), .b true)]
noncomputable def aI8 : Tab := bL ((aT FF)) 15 fV [lf10]
def bA2 : List LF := []
theorem runFd_p11 {qb : Nat} (hq : qb = 4 ∨ qb = 5 ∨ qb = 6) : bP (code aI8 6000 bA2 cz (bD (bH (gQ qb) cB) 58) ⟨ae (gJ qb) .leaf, 42, 0, 0⟩) .ret cB 58 904 [(0, I6 10), (1, .s 31 dc)] [] 40 904 [(4, .s 0 0), (5, .aZ 63 (.ag [.x 0, .x 1]))] [] = true := by rcases hq with rfl | rfl | rfl <;> kernel_rfl
def FE : LK := [(.bytes [], .x 26), (.len (.x 0), .x 27), (.bin .lss (.x 1) (.x 27), .b true), (.idx (.x 0) (.x 1), .x 28), (.bin .add (.x 2) (I6 1), .x 29), (.bin .gtr (.x 29) (I6 1000), .b false), (.bin .neq (.x 28) (.i .u8 (.ofNat 10)), .b false), (.call 25 [.x 3, .s 1 13], .x 30), (.bin .eql (.x 30) (.s 0 0), .b false), (.idx (.x 30) (I6 0), .x 31), (.bin .eql (.x 31) (.i .u8 (.ofNat 32)), .b false), (.bin .eql (.x 31) (.i .u8 (.ofNat 9)), .b true)]
noncomputable def aI7 : Tab := bL ((aT FE)) 15 fV [lf10]
def bA1 : List LF := []
theorem runFd_p12 {qb : Nat} (hq : qb = 4 ∨ qb = 5 ∨ qb = 6) : bP (code aI7 6000 bA1 cz (bD (bH (gQ qb) cB) 58) ⟨ae (gJ qb) .leaf, 42, 0, 0⟩) .ret cB 58 904 [(0, I6 10), (1, .s 31 dc)] [] 40 904 [(4, .s 0 0), (5, .aZ 63 (.ag [.x 0, .x 1]))] [] = true := by rcases hq with rfl | rfl | rfl <;> kernel_rfl
def FD : LK := [(.bytes [], .x 32), (.len (.x 0), .x 33), (.bin .lss (.x 1) (.x 33), .b true), (.idx (.x 0) (.x 1), .x 34), (.bin .add (.x 2) (I6 1), .x 35), (.bin .gtr (.x 35) (I6 1000), .b false), (.bin .neq (.x 34) (.i .u8 (.ofNat 10)), .b false), (.call 25 [.x 3, .s 1 13], .x 36), (.bin .eql (.x 36) (.s 0 0), .b false), (.idx (.x 36) (I6 0), .x 37), (.bin .eql (.x 37) (.i .u8 (.ofNat 32)), .b false), (.bin .eql (.x 37) (.i .u8 (.ofNat 9)), .b false), (.call 39 [.x 36], .tu [.ag [.s 0 0, .s 0 0], .aZ 63 (.ag [.x 38, .x 39])]), (.eq 40 (.x 38) (I6 10), .b true)]
def lf44 : LF := ⟨8888888, 0, [(0, .aZ 63 (.ag [.x 38, .x 39])), (1, .aZ 46 (.p 45 0))], [], .normal, [(0, .b true)], some yk⟩
noncomputable def aI6 : Tab := bL ((aT FD)) 15 fV [lf44]
def bA0 : List LF := []
theorem runFd_p13 {qb : Nat} (hq : qb = 4 ∨ qb = 5 ∨ qb = 6) : bP (code aI6 6000 bA0 cz (bD (bH (gQ qb) cB) 58) ⟨ae (gJ qb) .leaf, 42, 0, 0⟩) .ret cB 58 904 [(0, .x 38), (1, .x 39)] [] 40 904 [(4, .s 0 0), (5, .aZ 63 (.ag [.x 0, .x 1]))] [] = true := by rcases hq with rfl | rfl | rfl <;> kernel_rfl
def FC : LK := [(.bytes [], .x 40), (.len (.x 0), .x 41), (.bin .lss (.x 1) (.x 41), .b true), (.idx (.x 0) (.x 1), .x 42), (.bin .add (.x 2) (I6 1), .x 43), (.bin .gtr (.x 43) (I6 1000), .b false), (.bin .neq (.x 42) (.i .u8 (.ofNat 10)), .b false), (.call 25 [.x 3, .s 1 13], .x 44), (.bin .eql (.x 44) (.s 0 0), .b false), (.idx (.x 44) (I6 0), .x 45), (.bin .eql (.x 45) (.i .u8 (.ofNat 32)), .b false), (.bin .eql (.x 45) (.i .u8 (.ofNat 9)), .b false), (.call 39 [.x 44], .tu [.ag [.s 0 0, .s 0 0], .aZ 63 (.ag [.x 46, .x 47])]), (.eq 40 (.x 46) (I6 10), .b false), (.eq 40 (.x 46) (I6 12), .b true)]
def lf45 : LF := ⟨8888888, 0, [(0, .aZ 63 (.ag [.x 46, .x 47])), (1, .aZ 46 (.p 46 0))], [], .normal, [(0, .b true)], some pc⟩
noncomputable def aI5 : Tab := bL ((aT FC)) 15 fV [lf45]
def aZ9 : List LF := []
theorem runFd_p14 {qb : Nat} (hq : qb = 4 ∨ qb = 5 ∨ qb = 6) : bP (code aI5 6000 aZ9 cz (bD (bH (gQ qb) cB) 58) ⟨ae (gJ qb) .leaf, 42, 0, 0⟩) .ret cB 58 904 [(0, .x 46), (1, .x 47)] [] 40 904 [(4, .s 0 0), (5, .aZ 63 (.ag [.x 0, .x 1]))] [] = true := by rcases hq with rfl | rfl | rfl <;> kernel_rfl
def FB : LK := [(.bytes [], .x 48), (.len (.x 0), .x 49), (.bin .lss (.x 1) (.x 49), .b true), (.idx (.x 0) (.x 1), .x 50), (.bin .add (.x 2) (I6 1), .x 51), (.bin .gtr (.x 51) (I6 1000), .b false), (.bin .neq (.x 50) (.i .u8 (.ofNat 10)), .b false), (.call 25 [.x 3, .s 1 13], .x 52), (.bin .eql (.x 52) (.s 0 0), .b false), (.idx (.x 52) (I6 0), .x 53), (.bin .eql (.x 53) (.i .u8 (.ofNat 32)), .b false), (.bin .eql (.x 53) (.i .u8 (.ofNat 9)), .b false), (.call 39 [.x 52], .tu [.ag [.x 54, .x 55], .ni]), (.ra (.x 2000000) [.x 54, .x 55], .x 2000008), (.rf (.x 2000008) 2 32, .b true), (.rl (.x 2000008) 2, .x 56), (.bin .gtr (.x 56) (I6 32), .b false), (.bin .add (.x 1) (I6 1), .x 57)]
theorem runFd_p15 {qb : Nat} (hq : qb = 4 ∨ qb = 5 ∨ qb = 6) : (qi qb) FB .normal [(0, .x 0), (1, .x 57), (2, .x 51), (3, .x 48), (2000000, .x 2000008)] [(40, 42), (41, 45)] 42 (gQ qb) (gJ qb) = true := by rcases hq with rfl | rfl | rfl <;> kernel_rfl
def FA : LK := [(.bytes [], .x 58), (.len (.x 0), .x 59), (.bin .lss (.x 1) (.x 59), .b true), (.idx (.x 0) (.x 1), .x 60), (.bin .add (.x 2) (I6 1), .x 61), (.bin .gtr (.x 61) (I6 1000), .b false), (.bin .neq (.x 60) (.i .u8 (.ofNat 10)), .b false), (.call 25 [.x 3, .s 1 13], .x 62), (.bin .eql (.x 62) (.s 0 0), .b true)]
def lf46 : LF := ⟨8888888, 0, [(0, .sr 41)], [], .normal, [(0, .tu [I6 0, .s 0 0, .aZ 63 (.ag [I6 10, .x 63])])], some pb⟩
def lh47 : LH := ⟨4, 694, 744, [(424, bk 40 [I6 0])], []⟩
def lf47 : LF := ⟨8888888, 0, [(0, .aZ 63 (.ag [I6 10, .x 63])), (1, .aZ 46 (.p 424 0))], [], .normal, [(0, .b true)], some lh47⟩
noncomputable def aI4 : Tab := bL (bL ((aT FA)) 37 qP [lf46]) 15 fV [lf47]
def aZ8 : List LF := []
theorem runFd_p16 {qb : Nat} (hq : qb = 4 ∨ qb = 5 ∨ qb = 6) : bP (code aI4 6000 aZ8 cz (bD (bH (gQ qb) cB) 58) ⟨ae (gJ qb) .leaf, 42, 0, 0⟩) .ret cB 58 904 [(0, I6 10), (1, .x 63)] [] 40 904 [(4, .s 0 0), (5, .aZ 63 (.ag [.x 0, .x 1]))] [] = true := by rcases hq with rfl | rfl | rfl <;> kernel_rfl
def E9 : LK := [(.bytes [], .x 64), (.len (.x 0), .x 65), (.bin .lss (.x 1) (.x 65), .b true), (.idx (.x 0) (.x 1), .x 66), (.bin .add (.x 2) (I6 1), .x 67), (.bin .gtr (.x 67) (I6 1000), .b false), (.bin .neq (.x 66) (.i .u8 (.ofNat 10)), .b false), (.call 25 [.x 3, .s 1 13], .x 68), (.bin .eql (.x 68) (.s 0 0), .b true), (.rl (.x 2000000) 2, .x 71), (.bin .add (.x 1) (I6 1), .x 72), (.sub (.x 0) (some (.x 72)) none, .x 73)]
def lf48 : LF := ⟨8888888, 0, [(0, .sr 41)], [], .normal, [(0, .tu [.x 69, .x 70, .ni])], some pb⟩
def lh49 : LH := ⟨4, 604, 644, [(41, .r 2000000 50 2 false)], [(41, .r 2000000 50 2 false), (604, .r 2000011 50 2 false)]⟩
def lf49 : LF := ⟨3, 25, [(1, .s 6 dE), (5, .aL), (8, .sr 41), (10, I6 0), (9, .x 71)], [], (.exit 0), [(5, .sr 604)], some lh49⟩
noncomputable def aI3 : Tab := bL (bL ((aT E9)) 37 qP [lf48]) 38 AH [lf49]
def aZ7 : List LF := []
theorem runFd_p17 {qb : Nat} (hq : qb = 4 ∨ qb = 5 ∨ qb = 6) : bP (code aI3 6000 aZ7 cz (bD (bH (gQ qb) cB) 58) ⟨ae (gJ qb) .leaf, 42, 0, 0⟩) .ret cB 58 904 [(0, .x 73), (1, .x 69), (2, .x 70), (2000000, .x 2000011)] [(41, 604)] 40 904 [(4, .x 0), (5, .ni)] [(qb, bk 42 [.und, .und, .und, .und, .x 1, .x 2, .sr 41, .b true, .b false]), (41, .r 2000000 50 2 false)] = true := by rcases hq with rfl | rfl | rfl <;> kernel_rfl
def E8 : LK := [(.bytes [], .x 74), (.len (.x 0), .x 75), (.bin .lss (.x 1) (.x 75), .b true), (.idx (.x 0) (.x 1), .x 76), (.bin .add (.x 2) (I6 1), .x 77), (.bin .gtr (.x 77) (I6 1000), .b false), (.bin .neq (.x 76) (.i .u8 (.ofNat 10)), .b false), (.call 25 [.x 3, .s 1 13], .x 78), (.bin .eql (.x 78) (.s 0 0), .b false), (.idx (.x 78) (I6 0), .x 79), (.bin .eql (.x 79) (.i .u8 (.ofNat 32)), .b false), (.bin .eql (.x 79) (.i .u8 (.ofNat 9)), .b false), (.call 39 [.x 78], .tu [.ag [.x 80, .x 81], .ni]), (.ra (.x 2000000) [.x 80, .x 81], .x 2000013), (.rf (.x 2000013) 2 32, .b true), (.rl (.x 2000013) 2, .x 82), (.bin .gtr (.x 82) (I6 32), .b true)]
def lf50 : LF := ⟨8888888, 0, [(0, .aZ 63 (.ag [I6 12, .s 15 zn7])), (1, .aZ 46 (.p 46 0))], [], .normal, [(0, .b true)], some pc⟩
noncomputable def aI2 : Tab := bL ((aT E8)) 15 fV [lf50]
def aZ6 : List LF := []
theorem runFd_p18 {qb : Nat} (hq : qb = 4 ∨ qb = 5 ∨ qb = 6) : bP (code aI2 6000 aZ6 cz (bD (bH (gQ qb) cB) 58) ⟨ae (gJ qb) .leaf, 42, 0, 0⟩) .ret cB 58 904 [(0, I6 12), (1, .s 15 zn7)] [] 40 904 [(4, .s 0 0), (5, .aZ 63 (.ag [.x 0, .x 1]))] [] = true := by rcases hq with rfl | rfl | rfl <;> kernel_rfl
def p8 : LK := [(.len (.x 0), .x 84), (.bin .lss (.x 1) (.x 84), .b false)]
theorem runFd_p19 {qb : Nat} (hq : qb = 4 ∨ qb = 5 ∨ qb = 6) : (qi qb) p8 (.exit 0) [(0, .x 0)] [] 904 [(0, .p qb 0), (1, .x 0)] [(qb, bk 42 [.und, .und, .und, .und, .und, .und, .und, .b false, .b false])] = true := by rcases hq with rfl | rfl | rfl <;> kernel_rfl
theorem runFd_p19x2 {qb : Nat} (hq : qb = 4 ∨ qb = 5 ∨ qb = 6) : (qi qb) p8 (.exit 0) [(0, .x 0), (1, .x 2), (2, .x 3), (2000000, .x 2000000)] [(40, 40), (41, 41)] 904 [(0, .p qb 0), (1, .x 0)] [(qb, bk 42 [I6 1000, .x 1, .sy 40, .sr 41, I6 0, .s 0 0, .aL, .b false, .b false]), (40, .t 2 5), (41, .r 2000000 50 2 false)] = true := by rcases hq with rfl | rfl | rfl <;> kernel_rfl
def E6 : LK := [(.len (.x 0), .x 53), (.bin .lss (.x 1) (.x 53), .b true), (.idx (.x 0) (.x 1), .x 54), (.bin .add (.x 2) (I6 1), .x 55), (.bin .gtr (.x 55) (I6 1000), .b true)]
def lf51 : LF := ⟨8888888, 0, [(0, .aZ 63 (.ag [I6 12, .s 33 hU])), (1, .aZ 46 (.p 42 0))], [], .normal, [(0, .b true)], some lh8⟩
noncomputable def aI1 : Tab := bL ((aT E6)) 15 fV [lf51]
def aZ5 : List LF := []
theorem runFd_p20 {qb : Nat} (hq : qb = 4 ∨ qb = 5 ∨ qb = 6) : bP (code aI1 6000 aZ5 cz (bD (bH (jw qb) cB) 58) ⟨ae (jh qb) .leaf, 42, 0, 0⟩) .ret cB 58 904 [(0, I6 12), (1, .s 33 hU)] [] 40 904 [(4, .s 0 0), (5, .aZ 63 (.ag [.x 0, .x 1]))] [] = true := by rcases hq with rfl | rfl | rfl <;> kernel_rfl
def E4 : LK := [(.len (.x 0), .x 86), (.bin .lss (.x 1) (.x 86), .b true), (.idx (.x 0) (.x 1), .x 87), (.bin .add (.x 2) (I6 1), .x 88), (.bin .gtr (.x 88) (I6 1000), .b true)]
noncomputable def aI0 : Tab := bL ((aT E4)) 15 fV [lf51]
def aZ4 : List LF := []
theorem runFd_p21 {qb : Nat} (hq : qb = 4 ∨ qb = 5 ∨ qb = 6) : bP (code aI0 6000 aZ4 cz (bD (bH (gQ qb) cB) 58) ⟨ae (gJ qb) .leaf, 42, 0, 0⟩) .ret cB 58 904 [(0, I6 12), (1, .s 33 hU)] [] 40 904 [(4, .s 0 0), (5, .aZ 63 (.ag [.x 0, .x 1]))] [] = true := by rcases hq with rfl | rfl | rfl <;> kernel_rfl
def E3 : LK := [(.len (.x 0), .x 16), (.bin .lss (.x 1) (.x 16), .b false)]
theorem runFd_p22 {qb : Nat} (hq : qb = 4 ∨ qb = 5 ∨ qb = 6) : (A7 qb) E3 (.exit 0) [(0, .x 0)] [] 904 [(0, .p qb 0), (1, .x 0)] [(qb, bk 42 [.und, .und, .und, .und, .und, .und, .und, .b false, .b false])] = true := by rcases hq with rfl | rfl | rfl <;> kernel_rfl
def p7 : LK := [(.len (.x 0), .x 57), (.bin .lss (.x 1) (.x 57), .b false)]
theorem runFd_p23 {qb : Nat} (hq : qb = 4 ∨ qb = 5 ∨ qb = 6) : (qj qb) p7 (.exit 0) [(0, .x 0)] [] 904 [(0, .p qb 0), (1, .x 0)] [(qb, bk 42 [.und, .und, .und, .und, .und, .und, .und, .b false, .b false])] = true := by rcases hq with rfl | rfl | rfl <;> kernel_rfl
theorem runFd_p23x1 {qb : Nat} (hq : qb = 4 ∨ qb = 5 ∨ qb = 6) : (qj qb) p7 (.exit 0) [(0, .x 0), (1, .x 2), (2, .x 3)] [(40, 40)] 904 [(0, .p qb 0), (1, .x 0)] [(qb, bk 42 [I6 1000, .x 1, .sy 40, .aL, I6 0, .s 0 0, .aL, .b false, .b false]), (40, .t 2 5)] = true := by rcases hq with rfl | rfl | rfl <;> kernel_rfl
section
set_option linter.unusedSectionVars false
variable {qb : Nat} {s x : LB} {t : Int} (c0 : 0 ≤ t) (c1 : s.length ≤ 1500) (c2 : t + (x.length : Int) ≤ (s.length : Int)) (c3 : xG s x t) (c4 : qb = 4 ∨ qb = 5 ∨ qb = 6) {n : Int} {X : Nat → Value}
include c0 c1 c2 c3 c4
theorem pR (hI : cO qb s x t (0, n)) (h0 : n < (x.length : Int)) (h2 : ¬ (bt x n.toNat = 10)) : eU qb s x t E' x' e' h' (0, n) X := by
 obtain ⟨i0, i1, i2, i3, i4, i5, i6, it⟩ := dF qb s x t 0 n hI
 obtain ⟨g1, g2, g3, g4, g5⟩ := gb (s := s) (i := t + n) (by omega) i2
 have hn0 := hN0
 have hb := cT c3 c0 i0 (by omega) c2
 have hl0 := (fd0 (s := s) (i := t + n) (by omega)).2; have hts := cq ([] : LB)
 have hf0 : aR s (t + n) = [] := (fd0 (by omega)).1; have hf1 : (aR s (t + n)).length = 0 := by rw [hf0]; rfl
 have := bQ x n.toNat; have := bR x n.toNat
 have hq := c_by (s := s) (i := t + n) (j := t + (n + 1)) (by omega) (by omega) i2 (by omega) (by omega)
 refine stFd_0 (h := FJ) (1, (n + 1)) ?_ (gd ⟨by omega, by omega, hq.1, by omega, fun _ => by omega, fun _ => hq.2.2.trans hf0, by omega, by omega⟩) (by show x.length - (n + 1).toNat < x.length - n.toNat; omega) (aB (v := St' x) (bc (b := ((n + 1))) rfl rfl (by omega) (bc (b := ((t + (n + 1)))) rfl rfl (by omega) (ah (v := St' ([u8 (bt x n.toNat)])) (u := St' (aC s (t + (n + 1)))) rfl rfl (congrArg (fun l => St' l) (by rw [hq.2.1, hb, hl0]; rfl)) (aI))))) (runFd_p0 c4)
 unfold FJ
 exact hc (kB0 rfl) <|hc av <|hc bU <|hc dG <|hc au <|hc cN <|hc sV <|hc (kApp (bs := [u8 (bt x n.toNat)]) (aA rfl) (.cons (isB8 (aA rfl) (by omega) (by omega)) .nil) (aG rfl) (by first | rfl | (simp; done))) <|hc (y4 (i := 0) (aA rfl) (b7 (m := 0) rfl) (aG rfl) rfl (by simp) (bt_at rfl (by omega) (by omega))) <|hc (yz (aA rfl) (by first | omega | (simp <;> omega))) <|hc au <|hnil
theorem pP (hI : cO qb s x t (1, n)) (h0 : n < (x.length : Int)) (h1 : ¬ (1000 < (t + n) + 1)) (h2 : ¬ (bt x n.toNat = 10)) : eU qb s x t E' x' e' h' (1, n) X := by
 obtain ⟨i0, i1, i2, i3, i4, i5, i6, it⟩ := dF qb s x t 1 n hI
 obtain ⟨g1, g2, g3, g4, g5⟩ := gb (s := s) (i := t + n) (by omega) i2
 have hn0 := hN0
 have hb := cT c3 c0 i0 (by omega) c2
 have hf0 : aR s (t + n) = [] := i5 (by omega); have hf1 : (aR s (t + n)).length = 0 := by rw [hf0]; rfl
 have := bQ x n.toNat; have := bR x n.toNat
 have hq := c_by (s := s) (i := t + n) (j := t + (n + 1)) (by omega) (by omega) i2 (by omega) (by omega)
 refine stFd_1 (h := E7) (1, (n + 1)) ?_ (gd ⟨by omega, by omega, hq.1, by omega, fun _ => by omega, fun _ => hq.2.2.trans (i5 (by omega)), by omega, by omega⟩) (by show x.length - (n + 1).toNat < x.length - n.toNat; omega) (aB (v := St' x) (bc (b := ((n + 1))) rfl rfl (by omega) (bc (b := ((t + (n + 1)))) rfl rfl (by omega) (ah (v := St' ((aC s (t + n)) ++ [u8 (bt x n.toNat)])) (u := St' (aC s (t + (n + 1)))) rfl rfl (congrArg (fun l => St' l) (by rw [hq.2.1, hb])) (aI))))) (runFd_p2 c4)
 unfold E7
 exact hc av <|hc bU <|hc dG <|hc au <|hc cN <|hc sV <|hc (kApp (bs := [u8 (bt x n.toNat)]) (aA rfl) (.cons (isB8 (aA rfl) (by omega) (by omega)) .nil) (aG rfl) (by first | rfl | (simp; done))) <|hc (yz (aA rfl) (by first | omega | (simp <;> omega))) <|hc au <|hnil
theorem pO (hI : cO qb s x t (1, n)) (h0 : n < (x.length : Int)) (h1 : ¬ (1000 < (t + n) + 1)) (h2 : bt x n.toNat = 10) (h3 : ¬ (((aK (aC s (t + n))).length : Int) = 0)) (h4 : ¬ (bt (aK (aC s (t + n))) 0 = 32)) (h5 : ¬ (bt (aK (aC s (t + n))) 0 = 9)) (h6 : pK (aK (aC s (t + n))) = 0) : eU qb s x t E' x' e' h' (1, n) X := by
 obtain ⟨i0, i1, i2, i3, i4, i5, i6, it⟩ := dF qb s x t 1 n hI
 obtain ⟨g1, g2, g3, g4, g5⟩ := gb (s := s) (i := t + n) (by omega) i2
 have hn0 := hN0
 have hb := cT c3 c0 i0 (by omega) c2
 have hf0 : aR s (t + n) = [] := i5 (by omega); have hf1 : (aR s (t + n)).length = 0 := by rw [hf0]; rfl
 have := bQ x n.toNat; have := bR x n.toNat
 have := cq (aC s (t + n))
 have := bQ (aK (aC s (t + n))) 0; have := bR (aK (aC s (t + n))) 0
 have hq := c_ok (s := s) (i := t + n) (j := t + (n + 1)) (by omega) (by omega) i2 (by omega) (by omega) (by omega) (by omega) (by assumption) (by omega)
 refine stFd_1 (h := Eu) (2, (n + 1)) ?_ (gd ⟨by omega, by omega, hq.1, by omega, fun _ => by omega, by omega, fun _ => by rw [hq.2.2]; simp, by omega⟩) (by show x.length - (n + 1).toNat < x.length - n.toNat; omega) (aB (v := St' x) (bc (b := ((n + 1))) rfl rfl (by omega) (bc (b := ((t + (n + 1)))) rfl rfl (by omega) (ah (v := St' ([] : LB)) (u := St' (aC s (t + (n + 1)))) rfl rfl (congrArg (fun l => St' l) (hq.2.1.symm)) (ah (v := aN aO (([] : List (LB × LB)) ++ [((pA (aK (aC s (t + n)))), (pB (aK (aC s (t + n)))))])) (u := aN aO (aR s (t + (n + 1)))) rfl rfl (congrArg (aN aO) (by rw [hq.2.2, hf0])) (aI)))))) (runFd_p8 c4)
 unfold Eu
 exact hc (iI (aG rfl)) <|hc (kB0 rfl) <|hc av <|hc bU <|hc dG <|hc au <|hc cN <|hc dm <|hc (fm (s := (aC s (t + n))) (aA rfl) (ar (l := [u8 13]) 1 13 rfl) (aG rfl)) <|hc (bu (aA rfl) (ar (l := ([] : LB)) 0 0 rfl) (fO (by omega))) <|hc jb <|hc eT <|hc eT <|hc (oN (ln := (aK (aC s (t + n)))) (aA rfl) (CG (by assumption) rfl rfl)) <|hc (sx (f := aO) (l := ([] : List (LB × LB))) (a := ((pA (aK (aC s (t + n)))), (pB (aK (aC s (t + n)))))) (aA rfl) (tH (aA rfl) (aA rfl)) (aG rfl)) <|hc (lV cL (aA rfl) (by first | omega | (simp <;> omega)) (by first | omega | (simp <;> omega))) <|hc (fQ cL (aA rfl) (denZ (m := 1) rfl) (by first | omega | (simp <;> omega))) <|hc au <|hnil
theorem pL (hI : cO qb s x t (2, n)) (h0 : n < (x.length : Int)) (h1 : ¬ (1000 < (t + n) + 1)) (h2 : ¬ (bt x n.toNat = 10)) : eU qb s x t E' x' e' h' (2, n) X := by
 obtain ⟨i0, i1, i2, i3, i4, i5, i6, it⟩ := dF qb s x t 2 n hI
 obtain ⟨g1, g2, g3, g4, g5⟩ := gb (s := s) (i := t + n) (by omega) i2
 have hn0 := hN0
 have h6 := List.length_pos_iff.2 (i6 (by omega))
 have hb := cT c3 c0 i0 (by omega) c2
 have := bQ x n.toNat; have := bR x n.toNat
 have hq := c_by (s := s) (i := t + n) (j := t + (n + 1)) (by omega) (by omega) i2 (by omega) (by omega)
 refine stFd_2 (h := Et) (2, (n + 1)) ?_ (gd ⟨by omega, by omega, hq.1, by omega, fun _ => by omega, by omega, fun _ => by rw [hq.2.2]; exact i6 (by omega), by omega⟩) (by show x.length - (n + 1).toNat < x.length - n.toNat; omega) (aB (v := St' x) (bc (b := ((n + 1))) rfl rfl (by omega) (bc (b := ((t + (n + 1)))) rfl rfl (by omega) (ah (v := St' ((aC s (t + n)) ++ [u8 (bt x n.toNat)])) (u := St' (aC s (t + (n + 1)))) rfl rfl (congrArg (fun l => St' l) (by rw [hq.2.1, hb])) (ah (v := aN aO (aR s (t + n))) (u := aN aO (aR s (t + (n + 1)))) rfl rfl (congrArg (aN aO) hq.2.2.symm) (aI)))))) (runFd_p9 c4)
 unfold Et
 exact hc av <|hc bU <|hc dG <|hc au <|hc cN <|hc sV <|hc (kApp (bs := [u8 (bt x n.toNat)]) (aA rfl) (.cons (isB8 (aA rfl) (by omega) (by omega)) .nil) (aG rfl) (by first | rfl | (simp; done))) <|hc (yz (aA rfl) (by first | omega | (simp <;> omega))) <|hc au <|hnil
theorem pQ (hI : cO qb s x t (2, n)) (h0 : n < (x.length : Int)) (h1 : ¬ (1000 < (t + n) + 1)) (h2 : bt x n.toNat = 10) (h3 : ¬ (((aK (aC s (t + n))).length : Int) = 0)) (h4 : ¬ (bt (aK (aC s (t + n))) 0 = 32)) (h5 : ¬ (bt (aK (aC s (t + n))) 0 = 9)) (h6 : pK (aK (aC s (t + n))) = 0) (h7 : ¬ (32 < ((aR s (t + n)).length : Int) + 1)) : eU qb s x t E' x' e' h' (2, n) X := by
 obtain ⟨i0, i1, i2, i3, i4, i5, i6, it⟩ := dF qb s x t 2 n hI
 obtain ⟨g1, g2, g3, g4, g5⟩ := gb (s := s) (i := t + n) (by omega) i2
 have hn0 := hN0
 have h6 := List.length_pos_iff.2 (i6 (by omega))
 have hb := cT c3 c0 i0 (by omega) c2
 have := bQ x n.toNat; have := bR x n.toNat
 have := cq (aC s (t + n))
 have := bQ (aK (aC s (t + n))) 0; have := bR (aK (aC s (t + n))) 0
 have hq := c_ok (s := s) (i := t + n) (j := t + (n + 1)) (by omega) (by omega) i2 (by omega) (by omega) (by omega) (by omega) (by assumption) (by omega)
 refine stFd_2 (h := FB) (2, (n + 1)) ?_ (gd ⟨by omega, by omega, hq.1, by omega, fun _ => by omega, by omega, fun _ => by rw [hq.2.2]; simp, by omega⟩) (by show x.length - (n + 1).toNat < x.length - n.toNat; omega) (aB (v := St' x) (bc (b := ((n + 1))) rfl rfl (by omega) (bc (b := ((t + (n + 1)))) rfl rfl (by omega) (ah (v := St' ([] : LB)) (u := St' (aC s (t + (n + 1)))) rfl rfl (congrArg (fun l => St' l) (hq.2.1.symm)) (ah (v := aN aO ((aR s (t + n)) ++ [((pA (aK (aC s (t + n)))), (pB (aK (aC s (t + n)))))])) (u := aN aO (aR s (t + (n + 1)))) rfl rfl (congrArg (aN aO) hq.2.2.symm) (aI)))))) (runFd_p15 c4)
 unfold FB
 exact hc (kB0 rfl) <|hc av <|hc bU <|hc dG <|hc au <|hc cN <|hc dm <|hc (fm (s := (aC s (t + n))) (aA rfl) (ar (l := [u8 13]) 1 13 rfl) (aG rfl)) <|hc (bu (aA rfl) (ar (l := ([] : LB)) 0 0 rfl) (fO (by omega))) <|hc jb <|hc eT <|hc eT <|hc (oN (ln := (aK (aC s (t + n)))) (aA rfl) (CG (by assumption) rfl rfl)) <|hc (sx (f := aO) (l := (aR s (t + n))) (a := ((pA (aK (aC s (t + n)))), (pB (aK (aC s (t + n)))))) (aA rfl) (tH (aA rfl) (aA rfl)) (aG rfl)) <|hc (lV cL (aA rfl) (by first | omega | (simp <;> omega)) (by first | omega | (simp <;> omega))) <|hc (fQ cL (aA rfl) (aG rfl) (by first | omega | (simp <;> omega))) <|hc cN <|hc au <|hnil
theorem sU (hI : cO qb s x t (0, n)) (h0 : n < (x.length : Int)) (h2 : bt x n.toNat = 10) : wG s (t + (x.length : Int)) = 2 := by
 obtain ⟨i0, i1, i2, i3, i4, i5, i6, it⟩ := dF qb s x t 0 n hI
 obtain ⟨g1, g2, g3, g4, g5⟩ := gb (s := s) (i := t + n) (by omega) i2
 have hn0 := hN0
 have hb := cT c3 c0 i0 (by omega) c2
 have hl0 := (fd0 (s := s) (i := t + n) (by omega)).2; have hts := cq ([] : LB)
 have hf0 : aR s (t + n) = [] := (fd0 (by omega)).1; have hf1 : (aR s (t + n)).length = 0 := by rw [hf0]; rfl
 have := bQ x n.toNat; have := bR x n.toNat
 have := cq ([] : LB)
 have hq := qa (s := s) (i := t + n) (j := t + (n + 1)) (by omega) (by omega) i2 (by omega) (by omega) (by omega) (by rw [hl0]; omega) (by rw [hf0]; exact o8.1)
 have hW := wst (k := t + (x.length : Int)) hq.1
 exact hW
theorem sK (hI : cO qb s x t (1, n)) (h0 : n < (x.length : Int)) (h1 : ¬ (1000 < (t + n) + 1)) (h2 : bt x n.toNat = 10) (h3 : ((aK (aC s (t + n))).length : Int) = 0) : wG s (t + (x.length : Int)) = 2 := by
 obtain ⟨i0, i1, i2, i3, i4, i5, i6, it⟩ := dF qb s x t 1 n hI
 obtain ⟨g1, g2, g3, g4, g5⟩ := gb (s := s) (i := t + n) (by omega) i2
 have hn0 := hN0
 have hb := cT c3 c0 i0 (by omega) c2
 have hf0 : aR s (t + n) = [] := i5 (by omega); have hf1 : (aR s (t + n)).length = 0 := by rw [hf0]; rfl
 have := bQ x n.toNat; have := bR x n.toNat
 have := cq (aC s (t + n))
 have hq := qa (s := s) (i := t + n) (j := t + (n + 1)) (by omega) (by omega) i2 (by omega) (by omega) (by omega) (by omega) (by rw [hf0]; exact o8.1)
 have hW := wst (k := t + (x.length : Int)) hq.1
 exact hW
theorem sJ (hI : cO qb s x t (1, n)) (h0 : n < (x.length : Int)) (h1 : ¬ (1000 < (t + n) + 1)) (h2 : bt x n.toNat = 10) (h3 : ¬ (((aK (aC s (t + n))).length : Int) = 0)) (h4 : bt (aK (aC s (t + n))) 0 = 32) : wG s (t + (x.length : Int)) = 2 := by
 obtain ⟨i0, i1, i2, i3, i4, i5, i6, it⟩ := dF qb s x t 1 n hI
 obtain ⟨g1, g2, g3, g4, g5⟩ := gb (s := s) (i := t + n) (by omega) i2
 have hn0 := hN0
 have hb := cT c3 c0 i0 (by omega) c2
 have := bQ x n.toNat; have := bR x n.toNat
 have := cq (aC s (t + n))
 have := bQ (aK (aC s (t + n))) 0; have := bR (aK (aC s (t + n))) 0
 have hq := nG (s := s) (i := t + n) (j := t + (n + 1)) (by omega) (by omega) i2 (by omega) (by omega) (by omega) (by omega) (by omega)
 have hW := wst (k := t + (x.length : Int)) hq.1
 exact hW
theorem sI (hI : cO qb s x t (1, n)) (h0 : n < (x.length : Int)) (h1 : ¬ (1000 < (t + n) + 1)) (h2 : bt x n.toNat = 10) (h3 : ¬ (((aK (aC s (t + n))).length : Int) = 0)) (h4 : ¬ (bt (aK (aC s (t + n))) 0 = 32)) (h5 : bt (aK (aC s (t + n))) 0 = 9) : wG s (t + (x.length : Int)) = 2 := by
 obtain ⟨i0, i1, i2, i3, i4, i5, i6, it⟩ := dF qb s x t 1 n hI
 obtain ⟨g1, g2, g3, g4, g5⟩ := gb (s := s) (i := t + n) (by omega) i2
 have hn0 := hN0
 have hb := cT c3 c0 i0 (by omega) c2
 have := bQ x n.toNat; have := bR x n.toNat
 have := cq (aC s (t + n))
 have := bQ (aK (aC s (t + n))) 0; have := bR (aK (aC s (t + n))) 0
 have hq := nG (s := s) (i := t + n) (j := t + (n + 1)) (by omega) (by omega) i2 (by omega) (by omega) (by omega) (by omega) (by omega)
 have hW := wst (k := t + (x.length : Int)) hq.1
 exact hW
theorem sH (hI : cO qb s x t (1, n)) (h0 : n < (x.length : Int)) (h1 : ¬ (1000 < (t + n) + 1)) (h2 : bt x n.toNat = 10) (h3 : ¬ (((aK (aC s (t + n))).length : Int) = 0)) (h4 : ¬ (bt (aK (aC s (t + n))) 0 = 32)) (h5 : ¬ (bt (aK (aC s (t + n))) 0 = 9)) (h6 : ¬ (pK (aK (aC s (t + n))) = 0)) (h7 : (pC (aK (aC s (t + n)))) = 10) : wG s (t + (x.length : Int)) = 2 := by
 obtain ⟨i0, i1, i2, i3, i4, i5, i6, it⟩ := dF qb s x t 1 n hI
 obtain ⟨g1, g2, g3, g4, g5⟩ := gb (s := s) (i := t + n) (by omega) i2
 have hn0 := hN0
 have hb := cT c3 c0 i0 (by omega) c2
 have := bQ x n.toNat; have := bR x n.toNat
 have := cq (aC s (t + n))
 have := bQ (aK (aC s (t + n))) 0; have := bR (aK (aC s (t + n))) 0
 have := mQ (l := (aK (aC s (t + n)))) (by assumption); have := mP (pK (aK (aC s (t + n))))
 have hq := nF (s := s) (i := t + n) (j := t + (n + 1)) (by omega) (by omega) i2 (by omega) (by omega) (by omega) (by omega) (by omega) (by assumption)
 have hW := wst (k := t + (x.length : Int)) hq.1
 exact hW
theorem sG (hI : cO qb s x t (1, n)) (h0 : n < (x.length : Int)) (h1 : ¬ (1000 < (t + n) + 1)) (h2 : bt x n.toNat = 10) (h3 : ¬ (((aK (aC s (t + n))).length : Int) = 0)) (h4 : ¬ (bt (aK (aC s (t + n))) 0 = 32)) (h5 : ¬ (bt (aK (aC s (t + n))) 0 = 9)) (h6 : ¬ (pK (aK (aC s (t + n))) = 0)) (h7 : ¬ ((pC (aK (aC s (t + n)))) = 10)) : wG s (t + (x.length : Int)) = 2 := by
 obtain ⟨i0, i1, i2, i3, i4, i5, i6, it⟩ := dF qb s x t 1 n hI
 obtain ⟨g1, g2, g3, g4, g5⟩ := gb (s := s) (i := t + n) (by omega) i2
 have hn0 := hN0
 have hb := cT c3 c0 i0 (by omega) c2
 have := bQ x n.toNat; have := bR x n.toNat
 have := cq (aC s (t + n))
 have := bQ (aK (aC s (t + n))) 0; have := bR (aK (aC s (t + n))) 0
 have := mQ (l := (aK (aC s (t + n)))) (by assumption); have := mP (pK (aK (aC s (t + n))))
 have hq := nF (s := s) (i := t + n) (j := t + (n + 1)) (by omega) (by omega) i2 (by omega) (by omega) (by omega) (by omega) (by omega) (by assumption)
 have hW := wst (k := t + (x.length : Int)) hq.1
 exact hW
theorem yE (hI : cO qb s x t (2, n)) (h0 : n < (x.length : Int)) (h1 : ¬ (1000 < (t + n) + 1)) (h2 : bt x n.toNat = 10) (h3 : ((aK (aC s (t + n))).length : Int) = 0) (h4 : dA (aR s (t + n)) = 0) (h5 : dC (aw) (aR s (t + n)) = []) : wG s (t + (x.length : Int)) = 1 := by
 obtain ⟨i0, i1, i2, i3, i4, i5, i6, it⟩ := dF qb s x t 2 n hI
 obtain ⟨g1, g2, g3, g4, g5⟩ := gb (s := s) (i := t + n) (by omega) i2
 have hn0 := hN0
 have h6 := List.length_pos_iff.2 (i6 (by omega))
 have hb := cT c3 c0 i0 (by omega) c2
 have := bQ x n.toNat; have := bR x n.toNat
 have := cq (aC s (t + n))
 have := lz (aw) (aR s (t + n))
 have := ev (l := x) (P := n + 1) (by omega) (by omega)
 have hq := qc (s := s) (i := t + n) (j := t + (n + 1)) (by omega) (by omega) i2 (by omega) (by omega) (by omega) (by omega) (by assumption)
 have hW := wst (k := t + (x.length : Int)) hq.1
 have hJ2 : JS s - t = n + 1 := by have := hq.2.1; omega
 exact hW
theorem sT (hI : cO qb s x t (2, n)) (h0 : n < (x.length : Int)) (h1 : ¬ (1000 < (t + n) + 1)) (h2 : bt x n.toNat = 10) (h3 : ¬ (((aK (aC s (t + n))).length : Int) = 0)) (h4 : bt (aK (aC s (t + n))) 0 = 32) : wG s (t + (x.length : Int)) = 2 := by
 obtain ⟨i0, i1, i2, i3, i4, i5, i6, it⟩ := dF qb s x t 2 n hI
 obtain ⟨g1, g2, g3, g4, g5⟩ := gb (s := s) (i := t + n) (by omega) i2
 have hn0 := hN0
 have h6 := List.length_pos_iff.2 (i6 (by omega))
 have hb := cT c3 c0 i0 (by omega) c2
 have := bQ x n.toNat; have := bR x n.toNat
 have := cq (aC s (t + n))
 have := bQ (aK (aC s (t + n))) 0; have := bR (aK (aC s (t + n))) 0
 have hq := nG (s := s) (i := t + n) (j := t + (n + 1)) (by omega) (by omega) i2 (by omega) (by omega) (by omega) (by omega) (by omega)
 have hW := wst (k := t + (x.length : Int)) hq.1
 exact hW
theorem sS (hI : cO qb s x t (2, n)) (h0 : n < (x.length : Int)) (h1 : ¬ (1000 < (t + n) + 1)) (h2 : bt x n.toNat = 10) (h3 : ¬ (((aK (aC s (t + n))).length : Int) = 0)) (h4 : ¬ (bt (aK (aC s (t + n))) 0 = 32)) (h5 : bt (aK (aC s (t + n))) 0 = 9) : wG s (t + (x.length : Int)) = 2 := by
 obtain ⟨i0, i1, i2, i3, i4, i5, i6, it⟩ := dF qb s x t 2 n hI
 obtain ⟨g1, g2, g3, g4, g5⟩ := gb (s := s) (i := t + n) (by omega) i2
 have hn0 := hN0
 have h6 := List.length_pos_iff.2 (i6 (by omega))
 have hb := cT c3 c0 i0 (by omega) c2
 have := bQ x n.toNat; have := bR x n.toNat
 have := cq (aC s (t + n))
 have := bQ (aK (aC s (t + n))) 0; have := bR (aK (aC s (t + n))) 0
 have hq := nG (s := s) (i := t + n) (j := t + (n + 1)) (by omega) (by omega) i2 (by omega) (by omega) (by omega) (by omega) (by omega)
 have hW := wst (k := t + (x.length : Int)) hq.1
 exact hW
theorem sR (hI : cO qb s x t (2, n)) (h0 : n < (x.length : Int)) (h1 : ¬ (1000 < (t + n) + 1)) (h2 : bt x n.toNat = 10) (h3 : ¬ (((aK (aC s (t + n))).length : Int) = 0)) (h4 : ¬ (bt (aK (aC s (t + n))) 0 = 32)) (h5 : ¬ (bt (aK (aC s (t + n))) 0 = 9)) (h6 : ¬ (pK (aK (aC s (t + n))) = 0)) (h7 : (pC (aK (aC s (t + n)))) = 10) : wG s (t + (x.length : Int)) = 2 := by
 obtain ⟨i0, i1, i2, i3, i4, i5, i6, it⟩ := dF qb s x t 2 n hI
 obtain ⟨g1, g2, g3, g4, g5⟩ := gb (s := s) (i := t + n) (by omega) i2
 have hn0 := hN0
 have h6 := List.length_pos_iff.2 (i6 (by omega))
 have hb := cT c3 c0 i0 (by omega) c2
 have := bQ x n.toNat; have := bR x n.toNat
 have := cq (aC s (t + n))
 have := bQ (aK (aC s (t + n))) 0; have := bR (aK (aC s (t + n))) 0
 have := mQ (l := (aK (aC s (t + n)))) (by assumption); have := mP (pK (aK (aC s (t + n))))
 have hq := nF (s := s) (i := t + n) (j := t + (n + 1)) (by omega) (by omega) i2 (by omega) (by omega) (by omega) (by omega) (by omega) (by assumption)
 have hW := wst (k := t + (x.length : Int)) hq.1
 exact hW
theorem sQ (hI : cO qb s x t (2, n)) (h0 : n < (x.length : Int)) (h1 : ¬ (1000 < (t + n) + 1)) (h2 : bt x n.toNat = 10) (h3 : ¬ (((aK (aC s (t + n))).length : Int) = 0)) (h4 : ¬ (bt (aK (aC s (t + n))) 0 = 32)) (h5 : ¬ (bt (aK (aC s (t + n))) 0 = 9)) (h6 : ¬ (pK (aK (aC s (t + n))) = 0)) (h7 : ¬ ((pC (aK (aC s (t + n)))) = 10)) : wG s (t + (x.length : Int)) = 2 := by
 obtain ⟨i0, i1, i2, i3, i4, i5, i6, it⟩ := dF qb s x t 2 n hI
 obtain ⟨g1, g2, g3, g4, g5⟩ := gb (s := s) (i := t + n) (by omega) i2
 have hn0 := hN0
 have h6 := List.length_pos_iff.2 (i6 (by omega))
 have hb := cT c3 c0 i0 (by omega) c2
 have := bQ x n.toNat; have := bR x n.toNat
 have := cq (aC s (t + n))
 have := bQ (aK (aC s (t + n))) 0; have := bR (aK (aC s (t + n))) 0
 have := mQ (l := (aK (aC s (t + n)))) (by assumption); have := mP (pK (aK (aC s (t + n))))
 have hq := nF (s := s) (i := t + n) (j := t + (n + 1)) (by omega) (by omega) i2 (by omega) (by omega) (by omega) (by omega) (by omega) (by assumption)
 have hW := wst (k := t + (x.length : Int)) hq.1
 exact hW
theorem sP (hI : cO qb s x t (2, n)) (h0 : n < (x.length : Int)) (h1 : ¬ (1000 < (t + n) + 1)) (h2 : bt x n.toNat = 10) (h3 : ((aK (aC s (t + n))).length : Int) = 0) (h4 : ¬ (dA (aR s (t + n)) = 0)) : wG s (t + (x.length : Int)) = 2 := by
 obtain ⟨i0, i1, i2, i3, i4, i5, i6, it⟩ := dF qb s x t 2 n hI
 obtain ⟨g1, g2, g3, g4, g5⟩ := gb (s := s) (i := t + n) (by omega) i2
 have hn0 := hN0
 have h6 := List.length_pos_iff.2 (i6 (by omega))
 have hb := cT c3 c0 i0 (by omega) c2
 have := bQ x n.toNat; have := bR x n.toNat
 have := cq (aC s (t + n))
 have := aQ8 (aR s (t + n))
 have hq := qa (s := s) (i := t + n) (j := t + (n + 1)) (by omega) (by omega) i2 (by omega) (by omega) (by omega) (by omega) (by assumption)
 have hW := wst (k := t + (x.length : Int)) hq.1
 exact hW
theorem yD (hI : cO qb s x t (2, n)) (h0 : n < (x.length : Int)) (h1 : ¬ (1000 < (t + n) + 1)) (h2 : bt x n.toNat = 10) (h3 : ((aK (aC s (t + n))).length : Int) = 0) (h4 : dA (aR s (t + n)) = 0) (h5 : ¬ (dC (aw) (aR s (t + n)) = [])) : wG s (t + (x.length : Int)) = 1 := by
 obtain ⟨i0, i1, i2, i3, i4, i5, i6, it⟩ := dF qb s x t 2 n hI
 obtain ⟨g1, g2, g3, g4, g5⟩ := gb (s := s) (i := t + n) (by omega) i2
 have hn0 := hN0
 have h6 := List.length_pos_iff.2 (i6 (by omega))
 have hb := cT c3 c0 i0 (by omega) c2
 have := bQ x n.toNat; have := bR x n.toNat
 have := cq (aC s (t + n))
 have := lz (aw) (aR s (t + n))
 have := ev (l := x) (P := n + 1) (by omega) (by omega)
 have hq := qc (s := s) (i := t + n) (j := t + (n + 1)) (by omega) (by omega) i2 (by omega) (by omega) (by omega) (by omega) (by assumption)
 have hW := wst (k := t + (x.length : Int)) hq.1
 have hJ2 : JS s - t = n + 1 := by have := hq.2.1; omega
 exact hW
theorem sO (hI : cO qb s x t (2, n)) (h0 : n < (x.length : Int)) (h1 : ¬ (1000 < (t + n) + 1)) (h2 : bt x n.toNat = 10) (h3 : ¬ (((aK (aC s (t + n))).length : Int) = 0)) (h4 : ¬ (bt (aK (aC s (t + n))) 0 = 32)) (h5 : ¬ (bt (aK (aC s (t + n))) 0 = 9)) (h6 : pK (aK (aC s (t + n))) = 0) (h7 : 32 < ((aR s (t + n)).length : Int) + 1) : wG s (t + (x.length : Int)) = 2 := by
 obtain ⟨i0, i1, i2, i3, i4, i5, i6, it⟩ := dF qb s x t 2 n hI
 obtain ⟨g1, g2, g3, g4, g5⟩ := gb (s := s) (i := t + n) (by omega) i2
 have hn0 := hN0
 have h6 := List.length_pos_iff.2 (i6 (by omega))
 have hb := cT c3 c0 i0 (by omega) c2
 have := bQ x n.toNat; have := bR x n.toNat
 have := cq (aC s (t + n))
 have := bQ (aK (aC s (t + n))) 0; have := bR (aK (aC s (t + n))) 0
 have hq := c_my (s := s) (i := t + n) (j := t + (n + 1)) (by omega) (by omega) i2 (by omega) (by omega) (by omega) (by omega) (by omega) (by assumption) (by omega)
 have hW := wst (k := t + (x.length : Int)) hq.1
 exact hW
theorem CZ (hI : cO qb s x t (2, n)) (h0 : ¬ (n < (x.length : Int))) : wG s (t + (x.length : Int)) = 0 := by
 obtain ⟨i0, i1, i2, i3, i4, i5, i6, it⟩ := dF qb s x t 2 n hI
 obtain ⟨g1, g2, g3, g4, g5⟩ := gb (s := s) (i := t + n) (by omega) i2
 have hn0 := hN0
 have hE : n = (x.length : Int) := by omega
 rw [← hE]; exact i2
theorem sM (hI : cO qb s x t (1, n)) (h0 : n < (x.length : Int)) (h1 : 1000 < (t + n) + 1) : wG s (t + (x.length : Int)) = 2 := by
 obtain ⟨i0, i1, i2, i3, i4, i5, i6, it⟩ := dF qb s x t 1 n hI
 obtain ⟨g1, g2, g3, g4, g5⟩ := gb (s := s) (i := t + n) (by omega) i2
 have hn0 := hN0
 have hb := cT c3 c0 i0 (by omega) c2
 have := bQ x n.toNat; have := bR x n.toNat
 have hq := Ak (s := s) (i := t + n) (j := t + (n + 1)) (by omega) (by omega) i2 (by omega) (by omega)
 have hW := wst (k := t + (x.length : Int)) hq.1
 exact hW
theorem sL (hI : cO qb s x t (2, n)) (h0 : n < (x.length : Int)) (h1 : 1000 < (t + n) + 1) : wG s (t + (x.length : Int)) = 2 := by
 obtain ⟨i0, i1, i2, i3, i4, i5, i6, it⟩ := dF qb s x t 2 n hI
 obtain ⟨g1, g2, g3, g4, g5⟩ := gb (s := s) (i := t + n) (by omega) i2
 have hn0 := hN0
 have h6 := List.length_pos_iff.2 (i6 (by omega))
 have hb := cT c3 c0 i0 (by omega) c2
 have := bQ x n.toNat; have := bR x n.toNat
 have hq := Ak (s := s) (i := t + n) (j := t + (n + 1)) (by omega) (by omega) i2 (by omega) (by omega)
 have hW := wst (k := t + (x.length : Int)) hq.1
 exact hW
theorem CY (hI : cO qb s x t (0, n)) (h0 : ¬ (n < (x.length : Int))) : wG s (t + (x.length : Int)) = 0 := by
 obtain ⟨i0, i1, i2, i3, i4, i5, i6, it⟩ := dF qb s x t 0 n hI
 obtain ⟨g1, g2, g3, g4, g5⟩ := gb (s := s) (i := t + n) (by omega) i2
 have hn0 := hN0
 have hE : n = (x.length : Int) := by omega
 rw [← hE]; exact i2
theorem CX (hI : cO qb s x t (1, n)) (h0 : ¬ (n < (x.length : Int))) : wG s (t + (x.length : Int)) = 0 := by
 obtain ⟨i0, i1, i2, i3, i4, i5, i6, it⟩ := dF qb s x t 1 n hI
 obtain ⟨g1, g2, g3, g4, g5⟩ := gb (s := s) (i := t + n) (by omega) i2
 have hn0 := hN0
 have hE : n = (x.length : Int) := by omega
 rw [← hE]; exact i2
end
def aV8 (qb : Nat) (s x : LB) (t : Int) : List Value := [St' x]
def roEFd_0 (qb : Nat) (s x : LB) (t : Int) : List Value := []
noncomputable def EFd_0 (qb : Nat) (s x : LB) (t : Int) : Cx := cx (bG (aV8 qb s x t) (rX (roEFd_0 qb s x t) (fun _ => .bool true))) (bJ (aV (l := aV8 qb s x t) rfl)) 1 aH aQ
theorem roundsFd_0 (qb : Nat) (s x : LB) (t : Int) (c0 : 0 ≤ t) (c1 : s.length ≤ 1500) (c2 : t + (x.length : Int) ≤ (s.length : Int)) (c3 : xG s x t) (c4 : qb = 4 ∨ qb = 5 ∨ qb = 6) (x0 : wG s (t + (x.length : Int)) = 0) (st : Nat × Int) (X : Nat → Value) (hI : cO qb s x t st) : eU qb s x t (EFd_0 qb s x t) (.exit 0) [(0, .p qb 0), (1, .x 0)] [(qb, bk 42 [.und, .und, .und, .und, .und, .und, .und, .b false, .b false])] st X := by
 obtain ⟨tag, n⟩ := st
 have hI0 := hI
 obtain ⟨i0, i1, i2, i3, i4, i5, i6, it⟩ := dF qb s x t tag n hI
 rcases (show tag = 0 ∨ tag = 1 ∨ tag = 2 from by omega) with rfl | rfl | rfl
 ·obtain ⟨g1, g2, g3, g4, g5⟩ := gb (s := s) (i := t + n) (by omega) i2
  have hn0 := hN0
  by_cases h0 : n < (x.length : Int)
  ·by_cases h2 : bt x n.toNat = 10
   ·exfalso; exact absurd ((sU c0 c1 c2 c3 c4 hI0 h0 h2).symm.trans x0) (by decide)
   ·exact pR c0 c1 c2 c3 c4 hI0 h0 h2
  ·have hE : n = (x.length : Int) := by omega
   refine lvFd_0 (h := E3) rfl ?_ (aB (v := St' x) (aI)) (runFd_p22 c4)
   unfold E3
   exact hc av <|hc dV <|hnil
 ·obtain ⟨g1, g2, g3, g4, g5⟩ := gb (s := s) (i := t + n) (by omega) i2
  have hn0 := hN0
  by_cases h0 : n < (x.length : Int)
  ·by_cases h1 : 1000 < (t + n) + 1
   ·exfalso; exact absurd ((sM c0 c1 c2 c3 c4 hI0 h0 h1).symm.trans x0) (by decide)
   ·by_cases h2 : bt x n.toNat = 10
    ·by_cases h3 : ((aK (aC s (t + n))).length : Int) = 0
     ·exfalso; exact absurd ((sK c0 c1 c2 c3 c4 hI0 h0 h1 h2 h3).symm.trans x0) (by decide)
     ·by_cases h4 : bt (aK (aC s (t + n))) 0 = 32
      ·exfalso; exact absurd ((sJ c0 c1 c2 c3 c4 hI0 h0 h1 h2 h3 h4).symm.trans x0) (by decide)
      ·by_cases h5 : bt (aK (aC s (t + n))) 0 = 9
       ·exfalso; exact absurd ((sI c0 c1 c2 c3 c4 hI0 h0 h1 h2 h3 h4 h5).symm.trans x0) (by decide)
       ·by_cases h6 : pK (aK (aC s (t + n))) = 0
        ·exact pO c0 c1 c2 c3 c4 hI0 h0 h1 h2 h3 h4 h5 h6
        ·by_cases h7 : (pC (aK (aC s (t + n)))) = 10
         ·exfalso; exact absurd ((sH c0 c1 c2 c3 c4 hI0 h0 h1 h2 h3 h4 h5 h6 h7).symm.trans x0) (by decide)
         ·exfalso; exact absurd ((sG c0 c1 c2 c3 c4 hI0 h0 h1 h2 h3 h4 h5 h6 h7).symm.trans x0) (by decide)
    ·exact pP c0 c1 c2 c3 c4 hI0 h0 h1 h2
  ·have hE : n = (x.length : Int) := by omega
   refine lvFd_1 (h := p7) rfl ?_ (aB (v := St' x) (aI)) (runFd_p23 c4)
   unfold p7
   exact hc av <|hc dV <|hnil
 ·obtain ⟨g1, g2, g3, g4, g5⟩ := gb (s := s) (i := t + n) (by omega) i2
  have hn0 := hN0
  by_cases h0 : n < (x.length : Int)
  ·by_cases h1 : 1000 < (t + n) + 1
   ·exfalso; exact absurd ((sL c0 c1 c2 c3 c4 hI0 h0 h1).symm.trans x0) (by decide)
   ·by_cases h2 : bt x n.toNat = 10
    ·by_cases h3 : ((aK (aC s (t + n))).length : Int) = 0
     ·by_cases h4 : dA (aR s (t + n)) = 0
      ·by_cases h5 : dC (aw) (aR s (t + n)) = []
       ·exfalso; exact absurd ((yE c0 c1 c2 c3 c4 hI0 h0 h1 h2 h3 h4 h5).symm.trans x0) (by decide)
       ·exfalso; exact absurd ((yD c0 c1 c2 c3 c4 hI0 h0 h1 h2 h3 h4 h5).symm.trans x0) (by decide)
      ·exfalso; exact absurd ((sP c0 c1 c2 c3 c4 hI0 h0 h1 h2 h3 h4).symm.trans x0) (by decide)
     ·by_cases h4 : bt (aK (aC s (t + n))) 0 = 32
      ·exfalso; exact absurd ((sT c0 c1 c2 c3 c4 hI0 h0 h1 h2 h3 h4).symm.trans x0) (by decide)
      ·by_cases h5 : bt (aK (aC s (t + n))) 0 = 9
       ·exfalso; exact absurd ((sS c0 c1 c2 c3 c4 hI0 h0 h1 h2 h3 h4 h5).symm.trans x0) (by decide)
       ·by_cases h6 : pK (aK (aC s (t + n))) = 0
        ·by_cases h7 : 32 < ((aR s (t + n)).length : Int) + 1
         ·exfalso; exact absurd ((sO c0 c1 c2 c3 c4 hI0 h0 h1 h2 h3 h4 h5 h6 h7).symm.trans x0) (by decide)
         ·exact pQ c0 c1 c2 c3 c4 hI0 h0 h1 h2 h3 h4 h5 h6 h7
        ·by_cases h7 : (pC (aK (aC s (t + n)))) = 10
         ·exfalso; exact absurd ((sR c0 c1 c2 c3 c4 hI0 h0 h1 h2 h3 h4 h5 h6 h7).symm.trans x0) (by decide)
         ·exfalso; exact absurd ((sQ c0 c1 c2 c3 c4 hI0 h0 h1 h2 h3 h4 h5 h6 h7).symm.trans x0) (by decide)
    ·exact pL c0 c1 c2 c3 c4 hI0 h0 h1 h2
  ·have hE : n = (x.length : Int) := by omega
   refine lvFd_2 (h := p8) rfl ?_ (aB (v := St' x) (aI)) (runFd_p19 c4)
   unfold p8
   exact hc av <|hc dV <|hnil
theorem aL9 (qb : Nat) (s x : LB) (t : Int) (c0 : 0 ≤ t) (c1 : s.length ≤ 1500) (c2 : t + (x.length : Int) ≤ (s.length : Int)) (c3 : xG s x t) (c4 : qb = 4 ∨ qb = 5 ∨ qb = 6) (x0 : wG s (t + (x.length : Int)) = 0) : bI (cx nu one 1 aH aQ) (EFd_0 qb s x t) cz cB 58 (.exit 0) 4 40 42 904 (jI qb) (kR qb) [(0, .p qb 0), (1, .x 0)] [(qb, bk 42 [.und, .und, .und, .und, .und, .und, .und, .b false, .b false])] (cO qb s x t) (kq qb s x t) :=
 dW (iF qb s x t) (fun _ _ => rfl) (fun _ _ => rfl) (fun _ _ => rfl) (fun st X t ht => dT.trans (dS ((by decide : ∀ t, t ∈ cB → t < 1000000) t ht))) rfl rfl rfl (qY qb) rfl rfl (roundsFd_0 qb s x t c0 c1 c2 c3 c4 x0)
def aV7 (qb : Nat) (s x : LB) (t : Int) : List Value := [St' x, .int .i64 ((t + (x.length : Int))), St' (aC s (t + (x.length : Int)))]
def roEFd_1 (qb : Nat) (s x : LB) (t : Int) : List Value := []
noncomputable def EFd_1 (qb : Nat) (s x : LB) (t : Int) : Cx := cx (bG (aV7 qb s x t) (rX (roEFd_1 qb s x t) (fun _ => .bool true))) (bJ (aV (l := aV7 qb s x t) rfl)) 1 aH aQ
theorem roundsFd_1 (qb : Nat) (s x : LB) (t : Int) (c0 : 0 ≤ t) (c1 : s.length ≤ 1500) (c2 : t + (x.length : Int) ≤ (s.length : Int)) (c3 : xG s x t) (c4 : qb = 4 ∨ qb = 5 ∨ qb = 6) (x0 : wG s (t + (x.length : Int)) = 0) (x1 : aR s (t + (x.length : Int)) = [] ∧ 1 ≤ t + (x.length : Int)) (st : Nat × Int) (X : Nat → Value) (hI : cO qb s x t st) : eU qb s x t (EFd_1 qb s x t) (.exit 0) [(0, .p qb 0), (1, .x 0)] [(qb, bk 42 [I6 1000, .x 1, .sy 40, .aL, I6 0, .s 0 0, .aL, .b false, .b false]), (40, .t 2 5)] st X := by
 obtain ⟨tag, n⟩ := st
 have hI0 := hI
 obtain ⟨i0, i1, i2, i3, i4, i5, i6, it⟩ := dF qb s x t tag n hI
 rcases (show tag = 0 ∨ tag = 1 ∨ tag = 2 from by omega) with rfl | rfl | rfl
 ·obtain ⟨g1, g2, g3, g4, g5⟩ := gb (s := s) (i := t + n) (by omega) i2
  have hn0 := hN0
  by_cases h0 : n < (x.length : Int)
  ·by_cases h2 : bt x n.toNat = 10
   ·exfalso; exact absurd ((sU c0 c1 c2 c3 c4 hI0 h0 h2).symm.trans x0) (by decide)
   ·exact pR c0 c1 c2 c3 c4 hI0 h0 h2
  ·exfalso; have := x1.2; omega
 ·obtain ⟨g1, g2, g3, g4, g5⟩ := gb (s := s) (i := t + n) (by omega) i2
  have hn0 := hN0
  by_cases h0 : n < (x.length : Int)
  ·by_cases h1 : 1000 < (t + n) + 1
   ·exfalso; exact absurd ((sM c0 c1 c2 c3 c4 hI0 h0 h1).symm.trans x0) (by decide)
   ·by_cases h2 : bt x n.toNat = 10
    ·by_cases h3 : ((aK (aC s (t + n))).length : Int) = 0
     ·exfalso; exact absurd ((sK c0 c1 c2 c3 c4 hI0 h0 h1 h2 h3).symm.trans x0) (by decide)
     ·by_cases h4 : bt (aK (aC s (t + n))) 0 = 32
      ·exfalso; exact absurd ((sJ c0 c1 c2 c3 c4 hI0 h0 h1 h2 h3 h4).symm.trans x0) (by decide)
      ·by_cases h5 : bt (aK (aC s (t + n))) 0 = 9
       ·exfalso; exact absurd ((sI c0 c1 c2 c3 c4 hI0 h0 h1 h2 h3 h4 h5).symm.trans x0) (by decide)
       ·by_cases h6 : pK (aK (aC s (t + n))) = 0
        ·exact pO c0 c1 c2 c3 c4 hI0 h0 h1 h2 h3 h4 h5 h6
        ·by_cases h7 : (pC (aK (aC s (t + n)))) = 10
         ·exfalso; exact absurd ((sH c0 c1 c2 c3 c4 hI0 h0 h1 h2 h3 h4 h5 h6 h7).symm.trans x0) (by decide)
         ·exfalso; exact absurd ((sG c0 c1 c2 c3 c4 hI0 h0 h1 h2 h3 h4 h5 h6 h7).symm.trans x0) (by decide)
    ·exact pP c0 c1 c2 c3 c4 hI0 h0 h1 h2
  ·have hE : n = (x.length : Int) := by omega
   refine lvFd_1 (h := p7) rfl ?_ (aB (v := St' x) (bc (b := ((t + (x.length : Int)))) rfl rfl (by omega) (ah (v := St' (aC s (t + n))) (u := St' (aC s (t + (x.length : Int)))) rfl rfl (congrArg (fun l => St' l) (by rw [hE])) (aI)))) (runFd_p23x1 c4)
   unfold p7
   exact hc av <|hc dV <|hnil
 ·obtain ⟨g1, g2, g3, g4, g5⟩ := gb (s := s) (i := t + n) (by omega) i2
  have hn0 := hN0
  by_cases h0 : n < (x.length : Int)
  ·by_cases h1 : 1000 < (t + n) + 1
   ·exfalso; exact absurd ((sL c0 c1 c2 c3 c4 hI0 h0 h1).symm.trans x0) (by decide)
   ·by_cases h2 : bt x n.toNat = 10
    ·by_cases h3 : ((aK (aC s (t + n))).length : Int) = 0
     ·by_cases h4 : dA (aR s (t + n)) = 0
      ·by_cases h5 : dC (aw) (aR s (t + n)) = []
       ·exfalso; exact absurd ((yE c0 c1 c2 c3 c4 hI0 h0 h1 h2 h3 h4 h5).symm.trans x0) (by decide)
       ·exfalso; exact absurd ((yD c0 c1 c2 c3 c4 hI0 h0 h1 h2 h3 h4 h5).symm.trans x0) (by decide)
      ·exfalso; exact absurd ((sP c0 c1 c2 c3 c4 hI0 h0 h1 h2 h3 h4).symm.trans x0) (by decide)
     ·by_cases h4 : bt (aK (aC s (t + n))) 0 = 32
      ·exfalso; exact absurd ((sT c0 c1 c2 c3 c4 hI0 h0 h1 h2 h3 h4).symm.trans x0) (by decide)
      ·by_cases h5 : bt (aK (aC s (t + n))) 0 = 9
       ·exfalso; exact absurd ((sS c0 c1 c2 c3 c4 hI0 h0 h1 h2 h3 h4 h5).symm.trans x0) (by decide)
       ·by_cases h6 : pK (aK (aC s (t + n))) = 0
        ·by_cases h7 : 32 < ((aR s (t + n)).length : Int) + 1
         ·exfalso; exact absurd ((sO c0 c1 c2 c3 c4 hI0 h0 h1 h2 h3 h4 h5 h6 h7).symm.trans x0) (by decide)
         ·exact pQ c0 c1 c2 c3 c4 hI0 h0 h1 h2 h3 h4 h5 h6 h7
        ·by_cases h7 : (pC (aK (aC s (t + n)))) = 10
         ·exfalso; exact absurd ((sR c0 c1 c2 c3 c4 hI0 h0 h1 h2 h3 h4 h5 h6 h7).symm.trans x0) (by decide)
         ·exfalso; exact absurd ((sQ c0 c1 c2 c3 c4 hI0 h0 h1 h2 h3 h4 h5 h6 h7).symm.trans x0) (by decide)
    ·exact pL c0 c1 c2 c3 c4 hI0 h0 h1 h2
  ·exfalso; have hE : n = (x.length : Int) := (by omega); have h6 := i6 (by omega); rw [hE] at h6; exact h6 x1.1
theorem pe (qb : Nat) (s x : LB) (t : Int) (c0 : 0 ≤ t) (c1 : s.length ≤ 1500) (c2 : t + (x.length : Int) ≤ (s.length : Int)) (c3 : xG s x t) (c4 : qb = 4 ∨ qb = 5 ∨ qb = 6) (x0 : wG s (t + (x.length : Int)) = 0) (x1 : aR s (t + (x.length : Int)) = [] ∧ 1 ≤ t + (x.length : Int)) : bI (cx nu one 1 aH aQ) (EFd_1 qb s x t) cz cB 58 (.exit 0) 4 40 42 904 (jI qb) (kR qb) [(0, .p qb 0), (1, .x 0)] [(qb, bk 42 [I6 1000, .x 1, .sy 40, .aL, I6 0, .s 0 0, .aL, .b false, .b false]), (40, .t 2 5)] (cO qb s x t) (kq qb s x t) :=
 dW (iF qb s x t) (fun _ _ => rfl) (fun _ _ => rfl) (fun _ _ => rfl) (fun st X t ht => dT.trans (dS ((by decide : ∀ t, t ∈ cB → t < 1000000) t ht))) rfl rfl rfl (qY qb) rfl rfl (roundsFd_1 qb s x t c0 c1 c2 c3 c4 x0 x1)
def aV6 (qb : Nat) (s x : LB) (t : Int) : List Value := [St' x, .int .i64 ((t + (x.length : Int))), St' (aC s (t + (x.length : Int)))]
def roEFd_2 (qb : Nat) (s x : LB) (t : Int) : List Value := [aN aO (aR s (t + (x.length : Int)))]
noncomputable def EFd_2 (qb : Nat) (s x : LB) (t : Int) : Cx := cx (bG (aV6 qb s x t) (rX (roEFd_2 qb s x t) (fun _ => .bool true))) (bJ (aV (l := aV6 qb s x t) rfl)) 1 aH aQ
theorem roundsFd_2 (qb : Nat) (s x : LB) (t : Int) (c0 : 0 ≤ t) (c1 : s.length ≤ 1500) (c2 : t + (x.length : Int) ≤ (s.length : Int)) (c3 : xG s x t) (c4 : qb = 4 ∨ qb = 5 ∨ qb = 6) (x0 : wG s (t + (x.length : Int)) = 0) (x1 : ¬ aR s (t + (x.length : Int)) = []) (st : Nat × Int) (X : Nat → Value) (hI : cO qb s x t st) : eU qb s x t (EFd_2 qb s x t) (.exit 0) [(0, .p qb 0), (1, .x 0)] [(qb, bk 42 [I6 1000, .x 1, .sy 40, .sr 41, I6 0, .s 0 0, .aL, .b false, .b false]), (40, .t 2 5), (41, .r 2000000 50 2 false)] st X := by
 obtain ⟨tag, n⟩ := st
 have hI0 := hI
 obtain ⟨i0, i1, i2, i3, i4, i5, i6, it⟩ := dF qb s x t tag n hI
 rcases (show tag = 0 ∨ tag = 1 ∨ tag = 2 from by omega) with rfl | rfl | rfl
 ·obtain ⟨g1, g2, g3, g4, g5⟩ := gb (s := s) (i := t + n) (by omega) i2
  have hn0 := hN0
  by_cases h0 : n < (x.length : Int)
  ·by_cases h2 : bt x n.toNat = 10
   ·exfalso; exact absurd ((sU c0 c1 c2 c3 c4 hI0 h0 h2).symm.trans x0) (by decide)
   ·exact pR c0 c1 c2 c3 c4 hI0 h0 h2
  ·exfalso; exact x1 (fd0 (by omega)).1
 ·obtain ⟨g1, g2, g3, g4, g5⟩ := gb (s := s) (i := t + n) (by omega) i2
  have hn0 := hN0
  by_cases h0 : n < (x.length : Int)
  ·by_cases h1 : 1000 < (t + n) + 1
   ·exfalso; exact absurd ((sM c0 c1 c2 c3 c4 hI0 h0 h1).symm.trans x0) (by decide)
   ·by_cases h2 : bt x n.toNat = 10
    ·by_cases h3 : ((aK (aC s (t + n))).length : Int) = 0
     ·exfalso; exact absurd ((sK c0 c1 c2 c3 c4 hI0 h0 h1 h2 h3).symm.trans x0) (by decide)
     ·by_cases h4 : bt (aK (aC s (t + n))) 0 = 32
      ·exfalso; exact absurd ((sJ c0 c1 c2 c3 c4 hI0 h0 h1 h2 h3 h4).symm.trans x0) (by decide)
      ·by_cases h5 : bt (aK (aC s (t + n))) 0 = 9
       ·exfalso; exact absurd ((sI c0 c1 c2 c3 c4 hI0 h0 h1 h2 h3 h4 h5).symm.trans x0) (by decide)
       ·by_cases h6 : pK (aK (aC s (t + n))) = 0
        ·exact pO c0 c1 c2 c3 c4 hI0 h0 h1 h2 h3 h4 h5 h6
        ·by_cases h7 : (pC (aK (aC s (t + n)))) = 10
         ·exfalso; exact absurd ((sH c0 c1 c2 c3 c4 hI0 h0 h1 h2 h3 h4 h5 h6 h7).symm.trans x0) (by decide)
         ·exfalso; exact absurd ((sG c0 c1 c2 c3 c4 hI0 h0 h1 h2 h3 h4 h5 h6 h7).symm.trans x0) (by decide)
    ·exact pP c0 c1 c2 c3 c4 hI0 h0 h1 h2
  ·exfalso; have hE : n = (x.length : Int) := (by omega); exact x1 (by rw [← hE]; exact i5 (by omega))
 ·obtain ⟨g1, g2, g3, g4, g5⟩ := gb (s := s) (i := t + n) (by omega) i2
  have hn0 := hN0
  by_cases h0 : n < (x.length : Int)
  ·by_cases h1 : 1000 < (t + n) + 1
   ·exfalso; exact absurd ((sL c0 c1 c2 c3 c4 hI0 h0 h1).symm.trans x0) (by decide)
   ·by_cases h2 : bt x n.toNat = 10
    ·by_cases h3 : ((aK (aC s (t + n))).length : Int) = 0
     ·by_cases h4 : dA (aR s (t + n)) = 0
      ·by_cases h5 : dC (aw) (aR s (t + n)) = []
       ·exfalso; exact absurd ((yE c0 c1 c2 c3 c4 hI0 h0 h1 h2 h3 h4 h5).symm.trans x0) (by decide)
       ·exfalso; exact absurd ((yD c0 c1 c2 c3 c4 hI0 h0 h1 h2 h3 h4 h5).symm.trans x0) (by decide)
      ·exfalso; exact absurd ((sP c0 c1 c2 c3 c4 hI0 h0 h1 h2 h3 h4).symm.trans x0) (by decide)
     ·by_cases h4 : bt (aK (aC s (t + n))) 0 = 32
      ·exfalso; exact absurd ((sT c0 c1 c2 c3 c4 hI0 h0 h1 h2 h3 h4).symm.trans x0) (by decide)
      ·by_cases h5 : bt (aK (aC s (t + n))) 0 = 9
       ·exfalso; exact absurd ((sS c0 c1 c2 c3 c4 hI0 h0 h1 h2 h3 h4 h5).symm.trans x0) (by decide)
       ·by_cases h6 : pK (aK (aC s (t + n))) = 0
        ·by_cases h7 : 32 < ((aR s (t + n)).length : Int) + 1
         ·exfalso; exact absurd ((sO c0 c1 c2 c3 c4 hI0 h0 h1 h2 h3 h4 h5 h6 h7).symm.trans x0) (by decide)
         ·exact pQ c0 c1 c2 c3 c4 hI0 h0 h1 h2 h3 h4 h5 h6 h7
        ·by_cases h7 : (pC (aK (aC s (t + n)))) = 10
         ·exfalso; exact absurd ((sR c0 c1 c2 c3 c4 hI0 h0 h1 h2 h3 h4 h5 h6 h7).symm.trans x0) (by decide)
         ·exfalso; exact absurd ((sQ c0 c1 c2 c3 c4 hI0 h0 h1 h2 h3 h4 h5 h6 h7).symm.trans x0) (by decide)
    ·exact pL c0 c1 c2 c3 c4 hI0 h0 h1 h2
  ·have hE : n = (x.length : Int) := by omega
   refine lvFd_2 (h := p8) rfl ?_ (aB (v := St' x) (bc (b := ((t + (x.length : Int)))) rfl rfl (by omega) (ah (v := St' (aC s (t + n))) (u := St' (aC s (t + (x.length : Int)))) rfl rfl (congrArg (fun l => St' l) (by rw [hE])) (ah (v := aN aO (aR s (t + n))) (u := aN aO (aR s (t + (x.length : Int)))) rfl rfl (congrArg (aN aO) (by rw [hE])) (aI))))) (runFd_p19x2 c4)
   unfold p8
   exact hc av <|hc dV <|hnil
theorem pd (qb : Nat) (s x : LB) (t : Int) (c0 : 0 ≤ t) (c1 : s.length ≤ 1500) (c2 : t + (x.length : Int) ≤ (s.length : Int)) (c3 : xG s x t) (c4 : qb = 4 ∨ qb = 5 ∨ qb = 6) (x0 : wG s (t + (x.length : Int)) = 0) (x1 : ¬ aR s (t + (x.length : Int)) = []) : bI (cx nu one 1 aH aQ) (EFd_2 qb s x t) cz cB 58 (.exit 0) 4 40 42 904 (jI qb) (kR qb) [(0, .p qb 0), (1, .x 0)] [(qb, bk 42 [I6 1000, .x 1, .sy 40, .sr 41, I6 0, .s 0 0, .aL, .b false, .b false]), (40, .t 2 5), (41, .r 2000000 50 2 false)] (cO qb s x t) (kq qb s x t) :=
 dW (iF qb s x t) (fun _ _ => rfl) (fun _ _ => rfl) (fun _ _ => rfl) (fun st X t ht => dT.trans (dS ((by decide : ∀ t, t ∈ cB → t < 1000000) t ht))) rfl rfl rfl (qY qb) rfl rfl (roundsFd_2 qb s x t c0 c1 c2 c3 c4 x0 x1)
def aV5 (qb : Nat) (s x : LB) (t : Int) : List Value := [St' (List.drop (Int.toNat (JS s - t)) x), .int .i64 ((nS s)), St' (RS s)]
def roEFd_3 (qb : Nat) (s x : LB) (t : Int) : List Value := []
noncomputable def EFd_3 (qb : Nat) (s x : LB) (t : Int) : Cx := cx (bG (aV5 qb s x t) (rX (roEFd_3 qb s x t) (fun _ => .bool true))) (bJ (aV (l := aV5 qb s x t) rfl)) 1 aH aQ
theorem roundsFd_3 (qb : Nat) (s x : LB) (t : Int) (c0 : 0 ≤ t) (c1 : s.length ≤ 1500) (c2 : t + (x.length : Int) ≤ (s.length : Int)) (c3 : xG s x t) (c4 : qb = 4 ∨ qb = 5 ∨ qb = 6) (x0 : wG s (t + (x.length : Int)) = 1) (x1 : DS s = []) (st : Nat × Int) (X : Nat → Value) (hI : cO qb s x t st) : eU qb s x t (EFd_3 qb s x t) .ret [(4, .x 0), (5, .ni)] [(qb, bk 42 [.und, .und, .und, .und, .x 1, .x 2, .aL, .b true, .b false])] st X := by
 obtain ⟨tag, n⟩ := st
 have hI0 := hI
 obtain ⟨i0, i1, i2, i3, i4, i5, i6, it⟩ := dF qb s x t tag n hI
 rcases (show tag = 0 ∨ tag = 1 ∨ tag = 2 from by omega) with rfl | rfl | rfl
 ·obtain ⟨g1, g2, g3, g4, g5⟩ := gb (s := s) (i := t + n) (by omega) i2
  have hn0 := hN0
  by_cases h0 : n < (x.length : Int)
  ·by_cases h2 : bt x n.toNat = 10
   ·exfalso; exact absurd ((sU c0 c1 c2 c3 c4 hI0 h0 h2).symm.trans x0) (by decide)
   ·exact pR c0 c1 c2 c3 c4 hI0 h0 h2
  ·exfalso; exact absurd ((CY c0 c1 c2 c3 c4 hI0 h0).symm.trans x0) (by decide)
 ·obtain ⟨g1, g2, g3, g4, g5⟩ := gb (s := s) (i := t + n) (by omega) i2
  have hn0 := hN0
  by_cases h0 : n < (x.length : Int)
  ·by_cases h1 : 1000 < (t + n) + 1
   ·exfalso; exact absurd ((sM c0 c1 c2 c3 c4 hI0 h0 h1).symm.trans x0) (by decide)
   ·by_cases h2 : bt x n.toNat = 10
    ·by_cases h3 : ((aK (aC s (t + n))).length : Int) = 0
     ·exfalso; exact absurd ((sK c0 c1 c2 c3 c4 hI0 h0 h1 h2 h3).symm.trans x0) (by decide)
     ·by_cases h4 : bt (aK (aC s (t + n))) 0 = 32
      ·exfalso; exact absurd ((sJ c0 c1 c2 c3 c4 hI0 h0 h1 h2 h3 h4).symm.trans x0) (by decide)
      ·by_cases h5 : bt (aK (aC s (t + n))) 0 = 9
       ·exfalso; exact absurd ((sI c0 c1 c2 c3 c4 hI0 h0 h1 h2 h3 h4 h5).symm.trans x0) (by decide)
       ·by_cases h6 : pK (aK (aC s (t + n))) = 0
        ·exact pO c0 c1 c2 c3 c4 hI0 h0 h1 h2 h3 h4 h5 h6
        ·by_cases h7 : (pC (aK (aC s (t + n)))) = 10
         ·exfalso; exact absurd ((sH c0 c1 c2 c3 c4 hI0 h0 h1 h2 h3 h4 h5 h6 h7).symm.trans x0) (by decide)
         ·exfalso; exact absurd ((sG c0 c1 c2 c3 c4 hI0 h0 h1 h2 h3 h4 h5 h6 h7).symm.trans x0) (by decide)
    ·exact pP c0 c1 c2 c3 c4 hI0 h0 h1 h2
  ·exfalso; exact absurd ((CX c0 c1 c2 c3 c4 hI0 h0).symm.trans x0) (by decide)
 ·obtain ⟨g1, g2, g3, g4, g5⟩ := gb (s := s) (i := t + n) (by omega) i2
  have hn0 := hN0
  by_cases h0 : n < (x.length : Int)
  ·by_cases h1 : 1000 < (t + n) + 1
   ·exfalso; exact absurd ((sL c0 c1 c2 c3 c4 hI0 h0 h1).symm.trans x0) (by decide)
   ·by_cases h2 : bt x n.toNat = 10
    ·by_cases h3 : ((aK (aC s (t + n))).length : Int) = 0
     ·by_cases h4 : dA (aR s (t + n)) = 0
      ·by_cases h5 : dC (aw) (aR s (t + n)) = []
       ·have h6 := List.length_pos_iff.2 (i6 (by omega))
        have hb := cT c3 c0 i0 (by omega) c2
        have := bQ x n.toNat; have := bR x n.toNat
        have := cq (aC s (t + n))
        have := lz (aw) (aR s (t + n))
        have := ev (l := x) (P := n + 1) (by omega) (by omega)
        have hq := qc (s := s) (i := t + n) (j := t + (n + 1)) (by omega) (by omega) i2 (by omega) (by omega) (by omega) (by omega) (by assumption)
        have hW := wst (k := t + (x.length : Int)) hq.1
        have hJ2 : JS s - t = n + 1 := by have := hq.2.1; omega
        have ho : ∀ a' r', (a', r') ∈ FG → aM (fu qb s x t n X) a' r' := by
         unfold FG
         exact hc (kB0 rfl) <|hc av <|hc bU <|hc dG <|hc au <|hc cN <|hc dm <|hc (fm (s := (aC s (t + n))) (aA rfl) (ar (l := [u8 13]) 1 13 rfl) (aG rfl)) <|hc (bu (aA rfl) (ar (l := ([] : LB)) 0 0 rfl) (mU (by omega))) <|hc (fQ cL (aA rfl) (aG rfl) (by first | omega | (simp <;> omega))) <|hc au <|hc gu <|hnil
        exact lS (tb := aI9) (L := bA3) rfl (aq.bz (aq.lp2 ((ab _ _).hyps ho) (by omega) lx AJ (bK (.inr ⟨⟨rfl, rfl⟩, GK, cfSo_0 (l := lf38) (h := pb) (q := (0, .tu [.x 15, .x 16, .ni])) (aR s (t + n)) (by omega) (by assumption) (by assumption) (by omega) (by assumption) (by assumption) rfl rfl (by kernel_rfl) (ao := [(2000000, .x 2000000)]) (ai := []) (aB (v := aN aO (aR s (t + n))) (aI)) (by kernel_rfl) (ak := [(15, .x 0), (16, .x 1), (2000000, .x 2000000)]) (aB (v := .int .i64 ((ec (aR s (t + n))))) (aB (v := St' (eZ (aR s (t + n)))) (aB (v := aN aO (aR s (t + n))) (aI)))) (by kernel_rfl)⟩) aj)) (by omega) (dv (by omega) (by omega) aX3) aG1 (bK (bx rfl ⟨0, keyDr, bI.use (l := lf39) (h := lh39) (lfOkDr_0 (aR s (t + n)) (aw) (by first | assumption | (exact List.length_pos_iff.2 (by assumption)))) (0, (0 : Int), ([] : List (LB × LB))) (pU ⟨by omega, by omega, by omega, by assumption, ⟨by decide, by assumption⟩, rfl, fun _ => rfl, by omega, by omega⟩) rfl (by kernel_rfl) (ao := [(0, .s 6 dE), (1, .x 17), (2, I6 0), (2000000, .x 2000000)]) (ai := []) (fun X => ad (show Is _ (.s 6 dE) (St' (aw)) from bg (v := St' (aw)) (ar (l := aw) 6 dE rfl) (by first | rfl | (simp; done))) (aB (v := .int .i64 (((aR s (t + n)).length : Int))) (ad bS (aB (v := aN aO (aR s (t + n))) (aI))))) (by kernel_rfl) (ak := [(2000000, .x 2000000)]) (aB (v := aN aO (aR s (t + n))) (aI)) (by kernel_rfl)⟩) aj)) (cK aj) rfl (ah (v := St' (List.drop (Int.toNat (n + 1)) x)) (u := St' (List.drop (Int.toNat (JS s - t)) x)) rfl rfl (congrArg (fun l => St' l) (by rw [hJ2])) (ah (v := .int .i64 ((ec (aR s (t + n))))) (u := .int .i64 ((nS s))) rfl rfl (congrArg (Value.int .i64) hq.2.2.1.symm) (ah (v := St' (eZ (aR s (t + n)))) (u := St' (RS s)) rfl rfl (congrArg (fun l => St' l) (hq.2.2.2.1.symm)) (aI)))) (runFd_p10 c4)
       ·exfalso; have hb := cT c3 c0 i0 (by omega) c2; have hq := qc (s := s) (i := t + n) (j := t + (n + 1)) (by omega) (by omega) i2 (by omega) (by omega) (by omega) (by omega) (by assumption); rw [hq.2.2.2.2] at x1; exact absurd x1 (by assumption)
      ·exfalso; exact absurd ((sP c0 c1 c2 c3 c4 hI0 h0 h1 h2 h3 h4).symm.trans x0) (by decide)
     ·by_cases h4 : bt (aK (aC s (t + n))) 0 = 32
      ·exfalso; exact absurd ((sT c0 c1 c2 c3 c4 hI0 h0 h1 h2 h3 h4).symm.trans x0) (by decide)
      ·by_cases h5 : bt (aK (aC s (t + n))) 0 = 9
       ·exfalso; exact absurd ((sS c0 c1 c2 c3 c4 hI0 h0 h1 h2 h3 h4 h5).symm.trans x0) (by decide)
       ·by_cases h6 : pK (aK (aC s (t + n))) = 0
        ·by_cases h7 : 32 < ((aR s (t + n)).length : Int) + 1
         ·exfalso; exact absurd ((sO c0 c1 c2 c3 c4 hI0 h0 h1 h2 h3 h4 h5 h6 h7).symm.trans x0) (by decide)
         ·exact pQ c0 c1 c2 c3 c4 hI0 h0 h1 h2 h3 h4 h5 h6 h7
        ·by_cases h7 : (pC (aK (aC s (t + n)))) = 10
         ·exfalso; exact absurd ((sR c0 c1 c2 c3 c4 hI0 h0 h1 h2 h3 h4 h5 h6 h7).symm.trans x0) (by decide)
         ·exfalso; exact absurd ((sQ c0 c1 c2 c3 c4 hI0 h0 h1 h2 h3 h4 h5 h6 h7).symm.trans x0) (by decide)
    ·exact pL c0 c1 c2 c3 c4 hI0 h0 h1 h2
  ·exfalso; exact absurd ((CZ c0 c1 c2 c3 c4 hI0 h0).symm.trans x0) (by decide)
theorem mc (qb : Nat) (s x : LB) (t : Int) (c0 : 0 ≤ t) (c1 : s.length ≤ 1500) (c2 : t + (x.length : Int) ≤ (s.length : Int)) (c3 : xG s x t) (c4 : qb = 4 ∨ qb = 5 ∨ qb = 6) (x0 : wG s (t + (x.length : Int)) = 1) (x1 : DS s = []) : bI (cx nu one 1 aH aQ) (EFd_3 qb s x t) cz cB 58 .ret 4 40 42 904 (jI qb) (kR qb) [(4, .x 0), (5, .ni)] [(qb, bk 42 [.und, .und, .und, .und, .x 1, .x 2, .aL, .b true, .b false])] (cO qb s x t) (kq qb s x t) :=
 dW (iF qb s x t) (fun _ _ => rfl) (fun _ _ => rfl) (fun _ _ => rfl) (fun st X t ht => dT.trans (dS ((by decide : ∀ t, t ∈ cB → t < 1000000) t ht))) rfl rfl rfl (qY qb) rfl rfl (roundsFd_3 qb s x t c0 c1 c2 c3 c4 x0 x1)
def aV4 (qb : Nat) (s x : LB) (t : Int) : List Value := [St' (List.drop (Int.toNat (JS s - t)) x), .int .i64 ((nS s)), St' (RS s)]
def roEFd_4 (qb : Nat) (s x : LB) (t : Int) : List Value := [aN aO (DS s)]
noncomputable def EFd_4 (qb : Nat) (s x : LB) (t : Int) : Cx := cx (bG (aV4 qb s x t) (rX (roEFd_4 qb s x t) (fun _ => .bool true))) (bJ (aV (l := aV4 qb s x t) rfl)) 1 aH aQ
theorem roundsFd_4 (qb : Nat) (s x : LB) (t : Int) (c0 : 0 ≤ t) (c1 : s.length ≤ 1500) (c2 : t + (x.length : Int) ≤ (s.length : Int)) (c3 : xG s x t) (c4 : qb = 4 ∨ qb = 5 ∨ qb = 6) (x0 : wG s (t + (x.length : Int)) = 1) (x1 : ¬ DS s = []) (st : Nat × Int) (X : Nat → Value) (hI : cO qb s x t st) : eU qb s x t (EFd_4 qb s x t) .ret [(4, .x 0), (5, .ni)] [(qb, bk 42 [.und, .und, .und, .und, .x 1, .x 2, .sr 41, .b true, .b false]), (41, .r 2000000 50 2 false)] st X := by
 obtain ⟨tag, n⟩ := st
 have hI0 := hI
 obtain ⟨i0, i1, i2, i3, i4, i5, i6, it⟩ := dF qb s x t tag n hI
 rcases (show tag = 0 ∨ tag = 1 ∨ tag = 2 from by omega) with rfl | rfl | rfl
 ·obtain ⟨g1, g2, g3, g4, g5⟩ := gb (s := s) (i := t + n) (by omega) i2
  have hn0 := hN0
  by_cases h0 : n < (x.length : Int)
  ·by_cases h2 : bt x n.toNat = 10
   ·exfalso; exact absurd ((sU c0 c1 c2 c3 c4 hI0 h0 h2).symm.trans x0) (by decide)
   ·exact pR c0 c1 c2 c3 c4 hI0 h0 h2
  ·exfalso; exact absurd ((CY c0 c1 c2 c3 c4 hI0 h0).symm.trans x0) (by decide)
 ·obtain ⟨g1, g2, g3, g4, g5⟩ := gb (s := s) (i := t + n) (by omega) i2
  have hn0 := hN0
  by_cases h0 : n < (x.length : Int)
  ·by_cases h1 : 1000 < (t + n) + 1
   ·exfalso; exact absurd ((sM c0 c1 c2 c3 c4 hI0 h0 h1).symm.trans x0) (by decide)
   ·by_cases h2 : bt x n.toNat = 10
    ·by_cases h3 : ((aK (aC s (t + n))).length : Int) = 0
     ·exfalso; exact absurd ((sK c0 c1 c2 c3 c4 hI0 h0 h1 h2 h3).symm.trans x0) (by decide)
     ·by_cases h4 : bt (aK (aC s (t + n))) 0 = 32
      ·exfalso; exact absurd ((sJ c0 c1 c2 c3 c4 hI0 h0 h1 h2 h3 h4).symm.trans x0) (by decide)
      ·by_cases h5 : bt (aK (aC s (t + n))) 0 = 9
       ·exfalso; exact absurd ((sI c0 c1 c2 c3 c4 hI0 h0 h1 h2 h3 h4 h5).symm.trans x0) (by decide)
       ·by_cases h6 : pK (aK (aC s (t + n))) = 0
        ·exact pO c0 c1 c2 c3 c4 hI0 h0 h1 h2 h3 h4 h5 h6
        ·by_cases h7 : (pC (aK (aC s (t + n)))) = 10
         ·exfalso; exact absurd ((sH c0 c1 c2 c3 c4 hI0 h0 h1 h2 h3 h4 h5 h6 h7).symm.trans x0) (by decide)
         ·exfalso; exact absurd ((sG c0 c1 c2 c3 c4 hI0 h0 h1 h2 h3 h4 h5 h6 h7).symm.trans x0) (by decide)
    ·exact pP c0 c1 c2 c3 c4 hI0 h0 h1 h2
  ·exfalso; exact absurd ((CX c0 c1 c2 c3 c4 hI0 h0).symm.trans x0) (by decide)
 ·obtain ⟨g1, g2, g3, g4, g5⟩ := gb (s := s) (i := t + n) (by omega) i2
  have hn0 := hN0
  by_cases h0 : n < (x.length : Int)
  ·by_cases h1 : 1000 < (t + n) + 1
   ·exfalso; exact absurd ((sL c0 c1 c2 c3 c4 hI0 h0 h1).symm.trans x0) (by decide)
   ·by_cases h2 : bt x n.toNat = 10
    ·by_cases h3 : ((aK (aC s (t + n))).length : Int) = 0
     ·by_cases h4 : dA (aR s (t + n)) = 0
      ·by_cases h5 : dC (aw) (aR s (t + n)) = []
       ·exfalso; have hb := cT c3 c0 i0 (by omega) c2; have hq := qc (s := s) (i := t + n) (j := t + (n + 1)) (by omega) (by omega) i2 (by omega) (by omega) (by omega) (by omega) (by assumption); rw [hq.2.2.2.2] at x1; exact x1 (by assumption)
       ·have h6 := List.length_pos_iff.2 (i6 (by omega))
        have hb := cT c3 c0 i0 (by omega) c2
        have := bQ x n.toNat; have := bR x n.toNat
        have := cq (aC s (t + n))
        have := lz (aw) (aR s (t + n))
        have := ev (l := x) (P := n + 1) (by omega) (by omega)
        have hq := qc (s := s) (i := t + n) (j := t + (n + 1)) (by omega) (by omega) i2 (by omega) (by omega) (by omega) (by omega) (by assumption)
        have hW := wst (k := t + (x.length : Int)) hq.1
        have hJ2 : JS s - t = n + 1 := by have := hq.2.1; omega
        have ho : ∀ a' r', (a', r') ∈ E9 → aM (fu qb s x t n X) a' r' := by
         unfold E9
         exact hc (kB0 rfl) <|hc av <|hc bU <|hc dG <|hc au <|hc cN <|hc dm <|hc (fm (s := (aC s (t + n))) (aA rfl) (ar (l := [u8 13]) 1 13 rfl) (aG rfl)) <|hc (bu (aA rfl) (ar (l := ([] : LB)) 0 0 rfl) (mU (by omega))) <|hc (fQ cL (aA rfl) (aG rfl) (by first | omega | (simp <;> omega))) <|hc au <|hc gu <|hnil
        exact lS (tb := aI3) (L := aZ7) rfl (aq.bz (aq.lp2 ((ab _ _).hyps ho) (by omega) lx AJ (bK (.inr ⟨⟨rfl, rfl⟩, GK, cfSo_0 (l := lf48) (h := pb) (q := (0, .tu [.x 69, .x 70, .ni])) (aR s (t + n)) (by omega) (by assumption) (by assumption) (by omega) (by assumption) (by assumption) rfl rfl (by kernel_rfl) (ao := [(2000000, .x 2000000)]) (ai := []) (aB (v := aN aO (aR s (t + n))) (aI)) (by kernel_rfl) (ak := [(69, .x 0), (70, .x 1), (2000000, .x 2000000)]) (aB (v := .int .i64 ((ec (aR s (t + n))))) (aB (v := St' (eZ (aR s (t + n)))) (aB (v := aN aO (aR s (t + n))) (aI)))) (by kernel_rfl)⟩) aj)) (by omega) (dv (by omega) (by omega) aX3) aG1 (bK (bx rfl ⟨0, keyDr, bI.use (l := lf49) (h := lh49) (lfOkDr_1 (aR s (t + n)) (aw) (by first | assumption | (exact List.length_pos_iff.2 (by assumption)))) (0, (0 : Int), ([] : List (LB × LB))) (pU ⟨by omega, by omega, by omega, by assumption, ⟨by decide, by assumption⟩, rfl, fun _ => rfl, by omega, by omega⟩) rfl (by kernel_rfl) (ao := [(0, .s 6 dE), (1, .x 71), (2, I6 0), (2000000, .x 2000000)]) (ai := []) (fun X => ad (show Is _ (.s 6 dE) (St' (aw)) from bg (v := St' (aw)) (ar (l := aw) 6 dE rfl) (by first | rfl | (simp; done))) (aB (v := .int .i64 (((aR s (t + n)).length : Int))) (ad bS (aB (v := aN aO (aR s (t + n))) (aI))))) (by kernel_rfl) (ak := [(2000000, .x 2000000), (2000011, .x 2000001)]) (aB (v := aN aO (aR s (t + n))) (aB (v := aN aO (dC (aw) (aR s (t + n)))) (aI))) (by kernel_rfl)⟩) aj)) (cK aj) rfl (ah (v := St' (List.drop (Int.toNat (n + 1)) x)) (u := St' (List.drop (Int.toNat (JS s - t)) x)) rfl rfl (congrArg (fun l => St' l) (by rw [hJ2])) (ah (v := .int .i64 ((ec (aR s (t + n))))) (u := .int .i64 ((nS s))) rfl rfl (congrArg (Value.int .i64) hq.2.2.1.symm) (ah (v := St' (eZ (aR s (t + n)))) (u := St' (RS s)) rfl rfl (congrArg (fun l => St' l) (hq.2.2.2.1.symm)) (ah (v := aN aO (dC (aw) (aR s (t + n)))) (u := aN aO (DS s)) rfl rfl (congrArg (aN aO) hq.2.2.2.2.symm) (aI))))) (runFd_p17 c4)
      ·exfalso; exact absurd ((sP c0 c1 c2 c3 c4 hI0 h0 h1 h2 h3 h4).symm.trans x0) (by decide)
     ·by_cases h4 : bt (aK (aC s (t + n))) 0 = 32
      ·exfalso; exact absurd ((sT c0 c1 c2 c3 c4 hI0 h0 h1 h2 h3 h4).symm.trans x0) (by decide)
      ·by_cases h5 : bt (aK (aC s (t + n))) 0 = 9
       ·exfalso; exact absurd ((sS c0 c1 c2 c3 c4 hI0 h0 h1 h2 h3 h4 h5).symm.trans x0) (by decide)
       ·by_cases h6 : pK (aK (aC s (t + n))) = 0
        ·by_cases h7 : 32 < ((aR s (t + n)).length : Int) + 1
         ·exfalso; exact absurd ((sO c0 c1 c2 c3 c4 hI0 h0 h1 h2 h3 h4 h5 h6 h7).symm.trans x0) (by decide)
         ·exact pQ c0 c1 c2 c3 c4 hI0 h0 h1 h2 h3 h4 h5 h6 h7
        ·by_cases h7 : (pC (aK (aC s (t + n)))) = 10
         ·exfalso; exact absurd ((sR c0 c1 c2 c3 c4 hI0 h0 h1 h2 h3 h4 h5 h6 h7).symm.trans x0) (by decide)
         ·exfalso; exact absurd ((sQ c0 c1 c2 c3 c4 hI0 h0 h1 h2 h3 h4 h5 h6 h7).symm.trans x0) (by decide)
    ·exact pL c0 c1 c2 c3 c4 hI0 h0 h1 h2
  ·exfalso; exact absurd ((CZ c0 c1 c2 c3 c4 hI0 h0).symm.trans x0) (by decide)
theorem mb (qb : Nat) (s x : LB) (t : Int) (c0 : 0 ≤ t) (c1 : s.length ≤ 1500) (c2 : t + (x.length : Int) ≤ (s.length : Int)) (c3 : xG s x t) (c4 : qb = 4 ∨ qb = 5 ∨ qb = 6) (x0 : wG s (t + (x.length : Int)) = 1) (x1 : ¬ DS s = []) : bI (cx nu one 1 aH aQ) (EFd_4 qb s x t) cz cB 58 .ret 4 40 42 904 (jI qb) (kR qb) [(4, .x 0), (5, .ni)] [(qb, bk 42 [.und, .und, .und, .und, .x 1, .x 2, .sr 41, .b true, .b false]), (41, .r 2000000 50 2 false)] (cO qb s x t) (kq qb s x t) :=
 dW (iF qb s x t) (fun _ _ => rfl) (fun _ _ => rfl) (fun _ _ => rfl) (fun st X t ht => dT.trans (dS ((by decide : ∀ t, t ∈ cB → t < 1000000) t ht))) rfl rfl rfl (qY qb) rfl rfl (roundsFd_4 qb s x t c0 c1 c2 c3 c4 x0 x1)
def aV3 (qb : Nat) (s x : LB) (t : Int) : List Value := [.int .i64 ((kS s)), St' (mS s)]
def roEFd_5 (qb : Nat) (s x : LB) (t : Int) : List Value := []
noncomputable def EFd_5 (qb : Nat) (s x : LB) (t : Int) : Cx := cx (bG (aV3 qb s x t) (rX (roEFd_5 qb s x t) (fun _ => .bool true))) (bJ (aV (l := aV3 qb s x t) rfl)) 1 aH aQ
theorem roundsFd_5 (qb : Nat) (s x : LB) (t : Int) (c0 : 0 ≤ t) (c1 : s.length ≤ 1500) (c2 : t + (x.length : Int) ≤ (s.length : Int)) (c3 : xG s x t) (c4 : qb = 4 ∨ qb = 5 ∨ qb = 6) (x0 : wG s (t + (x.length : Int)) = 2) (st : Nat × Int) (X : Nat → Value) (hI : cO qb s x t st) : eU qb s x t (EFd_5 qb s x t) .ret [(4, .s 0 0), (5, .aZ 63 (.ag [.x 0, .x 1]))] [] st X := by
 obtain ⟨tag, n⟩ := st
 have hI0 := hI
 obtain ⟨i0, i1, i2, i3, i4, i5, i6, it⟩ := dF qb s x t tag n hI
 rcases (show tag = 0 ∨ tag = 1 ∨ tag = 2 from by omega) with rfl | rfl | rfl
 ·obtain ⟨g1, g2, g3, g4, g5⟩ := gb (s := s) (i := t + n) (by omega) i2
  have hn0 := hN0
  by_cases h0 : n < (x.length : Int)
  ·by_cases h2 : bt x n.toNat = 10
   ·have hb := cT c3 c0 i0 (by omega) c2
    have hl0 := (fd0 (s := s) (i := t + n) (by omega)).2; have hts := cq ([] : LB)
    have hf0 : aR s (t + n) = [] := (fd0 (by omega)).1; have hf1 : (aR s (t + n)).length = 0 := by rw [hf0]; rfl
    have := bQ x n.toNat; have := bR x n.toNat
    have := cq ([] : LB)
    have hq := qa (s := s) (i := t + n) (j := t + (n + 1)) (by omega) (by omega) i2 (by omega) (by omega) (by omega) (by rw [hl0]; omega) (by rw [hf0]; exact o8.1)
    have hW := wst (k := t + (x.length : Int)) hq.1
    have ho : ∀ a' r', (a', r') ∈ FH → aM (nP qb s x t n X) a' r' := by
     unfold FH
     exact hc (kB0 rfl) <|hc av <|hc bU <|hc dG <|hc au <|hc cN <|hc dm <|hc (fm (s := ([] : LB)) (aA rfl) (ar (l := [u8 13]) 1 13 rfl) (aG rfl)) <|hc (bu (aA rfl) (ar (l := ([] : LB)) 0 0 rfl) (mU (by omega))) <|hnil
    exact lLFd_0 (tb := aQ6) (L := LFd_p1) rfl (aq.lp2 ((ab _ _).hyps ho) (by omega) gO gN (bK (.inr ⟨⟨rfl, rfl⟩, gx, gw (l := lf8) (h := lh8) (q := (0, .b true)) 10 (fJ) (by omega) (by first | omega | decide) rfl rfl (by kernel_rfl) (ao := [(0, I6 10), (1, .s 25 fK)]) (ai := [(694, 42)]) (ad (show Is _ (I6 10) (.int .i64 (10)) from bg (v := .int .i64 10) (ct _ _) (by first | rfl | (congr 1; omega))) (ad (show Is _ (.s 25 fK) (St' (fJ)) from bg (v := St' (fJ)) (ar (l := fJ) 25 fK rfl) (by first | rfl | (simp; done))) (aI))) (by kernel_rfl) (ak := []) (aI) (by kernel_rfl)⟩) aj)) (cK aj) rfl (ad (show Is _ (I6 10) (.int .i64 ((kS s))) from bg (v := .int .i64 10) (ct _ _) (congrArg (Value.int .i64) hq.2.1.symm)) (ad (show Is _ (.s 25 fK) (St' (mS s)) from bg (v := St' (fJ)) (ar (l := fJ) 25 fK rfl) (congrArg (fun l => St' l) ((hq.2.2.trans (by rw [hf0]; exact o8.2.symm)).symm))) (aI))) (runFd_p1 c4)
   ·exact pR c0 c1 c2 c3 c4 hI0 h0 h2
  ·exfalso; exact absurd ((CY c0 c1 c2 c3 c4 hI0 h0).symm.trans x0) (by decide)
 ·obtain ⟨g1, g2, g3, g4, g5⟩ := gb (s := s) (i := t + n) (by omega) i2
  have hn0 := hN0
  by_cases h0 : n < (x.length : Int)
  ·by_cases h1 : 1000 < (t + n) + 1
   ·have hb := cT c3 c0 i0 (by omega) c2
    have := bQ x n.toNat; have := bR x n.toNat
    have hq := Ak (s := s) (i := t + n) (j := t + (n + 1)) (by omega) (by omega) i2 (by omega) (by omega)
    have hW := wst (k := t + (x.length : Int)) hq.1
    have ho : ∀ a' r', (a', r') ∈ E6 → aM (iU qb s x t n X) a' r' := by
     unfold E6
     exact hc av <|hc bU <|hc dG <|hc au <|hc cZ <|hnil
    exact pj (tb := aI1) (L := aZ5) rfl (aq.lp2 ((ab _ _).hyps ho) (by omega) gO gN (bK (.inr ⟨⟨rfl, rfl⟩, gx, gw (l := lf51) (h := lh8) (q := (0, .b true)) 12 (gS) (by omega) (by first | omega | decide) rfl rfl (by kernel_rfl) (ao := [(0, I6 12), (1, .s 33 hU)]) (ai := [(694, 42)]) (ad (show Is _ (I6 12) (.int .i64 (12)) from bg (v := .int .i64 12) (ct _ _) (by first | rfl | (congr 1; omega))) (ad (show Is _ (.s 33 hU) (St' (gS)) from bg (v := St' (gS)) (ar (l := gS) 33 hU rfl) (by first | rfl | (simp; done))) (aI))) (by kernel_rfl) (ak := []) (aI) (by kernel_rfl)⟩) aj)) (cK aj) rfl (ad (show Is _ (I6 12) (.int .i64 ((kS s))) from bg (v := .int .i64 12) (ct _ _) (congrArg (Value.int .i64) hq.2.1.symm)) (ad (show Is _ (.s 33 hU) (St' (mS s)) from bg (v := St' (gS)) (ar (l := gS) 33 hU rfl) (congrArg (fun l => St' l) (hq.2.2.symm))) (aI))) (runFd_p20 c4)
   ·by_cases h2 : bt x n.toNat = 10
    ·by_cases h3 : ((aK (aC s (t + n))).length : Int) = 0
     ·have hb := cT c3 c0 i0 (by omega) c2
      have hf0 : aR s (t + n) = [] := i5 (by omega); have hf1 : (aR s (t + n)).length = 0 := by rw [hf0]; rfl
      have := bQ x n.toNat; have := bR x n.toNat
      have := cq (aC s (t + n))
      have hq := qa (s := s) (i := t + n) (j := t + (n + 1)) (by omega) (by omega) i2 (by omega) (by omega) (by omega) (by omega) (by rw [hf0]; exact o8.1)
      have hW := wst (k := t + (x.length : Int)) hq.1
      have ho : ∀ a' r', (a', r') ∈ E0 → aM (iU qb s x t n X) a' r' := by
       unfold E0
       exact hc (kB0 rfl) <|hc av <|hc bU <|hc dG <|hc au <|hc cN <|hc dm <|hc (fm (s := (aC s (t + n))) (aA rfl) (ar (l := [u8 13]) 1 13 rfl) (aG rfl)) <|hc (bu (aA rfl) (ar (l := ([] : LB)) 0 0 rfl) (mU (by omega))) <|hnil
      exact pj (tb := aQ5) (L := LFd_p3) rfl (aq.lp2 ((ab _ _).hyps ho) (by omega) gO gN (bK (.inr ⟨⟨rfl, rfl⟩, gx, gw (l := lf9) (h := lh9) (q := (0, .b true)) 10 (fJ) (by omega) (by first | omega | decide) rfl rfl (by kernel_rfl) (ao := [(0, I6 10), (1, .s 25 fK)]) (ai := [(694, 43)]) (ad (show Is _ (I6 10) (.int .i64 (10)) from bg (v := .int .i64 10) (ct _ _) (by first | rfl | (congr 1; omega))) (ad (show Is _ (.s 25 fK) (St' (fJ)) from bg (v := St' (fJ)) (ar (l := fJ) 25 fK rfl) (by first | rfl | (simp; done))) (aI))) (by kernel_rfl) (ak := []) (aI) (by kernel_rfl)⟩) aj)) (cK aj) rfl (ad (show Is _ (I6 10) (.int .i64 ((kS s))) from bg (v := .int .i64 10) (ct _ _) (congrArg (Value.int .i64) hq.2.1.symm)) (ad (show Is _ (.s 25 fK) (St' (mS s)) from bg (v := St' (fJ)) (ar (l := fJ) 25 fK rfl) (congrArg (fun l => St' l) ((hq.2.2.trans (by rw [hf0]; exact o8.2.symm)).symm))) (aI))) (runFd_p3 c4)
     ·by_cases h4 : bt (aK (aC s (t + n))) 0 = 32
      ·have hb := cT c3 c0 i0 (by omega) c2
       have := bQ x n.toNat; have := bR x n.toNat
       have := cq (aC s (t + n))
       have := bQ (aK (aC s (t + n))) 0; have := bR (aK (aC s (t + n))) 0
       have hq := nG (s := s) (i := t + n) (j := t + (n + 1)) (by omega) (by omega) i2 (by omega) (by omega) (by omega) (by omega) (by omega)
       have hW := wst (k := t + (x.length : Int)) hq.1
       have ho : ∀ a' r', (a', r') ∈ Ez → aM (iU qb s x t n X) a' r' := by
        unfold Ez
        exact hc (kB0 rfl) <|hc av <|hc bU <|hc dG <|hc au <|hc cN <|hc dm <|hc (fm (s := (aC s (t + n))) (aA rfl) (ar (l := [u8 13]) 1 13 rfl) (aG rfl)) <|hc (bu (aA rfl) (ar (l := ([] : LB)) 0 0 rfl) (fO (by omega))) <|hc jb <|hc nA <|hnil
       exact pj (tb := aQ4) (L := LFd_p4) rfl (aq.lp2 ((ab _ _).hyps ho) (by omega) gO gN (bK (.inr ⟨⟨rfl, rfl⟩, gx, gw (l := lf10) (h := lh9) (q := (0, .b true)) 10 (dQ) (by omega) (by first | omega | decide) rfl rfl (by kernel_rfl) (ao := [(0, I6 10), (1, .s 31 dc)]) (ai := [(694, 43)]) (ad (show Is _ (I6 10) (.int .i64 (10)) from bg (v := .int .i64 10) (ct _ _) (by first | rfl | (congr 1; omega))) (ad (show Is _ (.s 31 dc) (St' (dQ)) from bg (v := St' (dQ)) (ar (l := dQ) 31 dc rfl) (by first | rfl | (simp; done))) (aI))) (by kernel_rfl) (ak := []) (aI) (by kernel_rfl)⟩) aj)) (cK aj) rfl (ad (show Is _ (I6 10) (.int .i64 ((kS s))) from bg (v := .int .i64 10) (ct _ _) (congrArg (Value.int .i64) hq.2.1.symm)) (ad (show Is _ (.s 31 dc) (St' (mS s)) from bg (v := St' (dQ)) (ar (l := dQ) 31 dc rfl) (congrArg (fun l => St' l) (hq.2.2.symm))) (aI))) (runFd_p4 c4)
      ·by_cases h5 : bt (aK (aC s (t + n))) 0 = 9
       ·have hb := cT c3 c0 i0 (by omega) c2
        have := bQ x n.toNat; have := bR x n.toNat
        have := cq (aC s (t + n))
        have := bQ (aK (aC s (t + n))) 0; have := bR (aK (aC s (t + n))) 0
        have hq := nG (s := s) (i := t + n) (j := t + (n + 1)) (by omega) (by omega) i2 (by omega) (by omega) (by omega) (by omega) (by omega)
        have hW := wst (k := t + (x.length : Int)) hq.1
        have ho : ∀ a' r', (a', r') ∈ Ey → aM (iU qb s x t n X) a' r' := by
         unfold Ey
         exact hc (kB0 rfl) <|hc av <|hc bU <|hc dG <|hc au <|hc cN <|hc dm <|hc (fm (s := (aC s (t + n))) (aA rfl) (ar (l := [u8 13]) 1 13 rfl) (aG rfl)) <|hc (bu (aA rfl) (ar (l := ([] : LB)) 0 0 rfl) (fO (by omega))) <|hc jb <|hc eT <|hc nA <|hnil
        exact pj (tb := aQ3) (L := LFd_p5) rfl (aq.lp2 ((ab _ _).hyps ho) (by omega) gO gN (bK (.inr ⟨⟨rfl, rfl⟩, gx, gw (l := lf10) (h := lh9) (q := (0, .b true)) 10 (dQ) (by omega) (by first | omega | decide) rfl rfl (by kernel_rfl) (ao := [(0, I6 10), (1, .s 31 dc)]) (ai := [(694, 43)]) (ad (show Is _ (I6 10) (.int .i64 (10)) from bg (v := .int .i64 10) (ct _ _) (by first | rfl | (congr 1; omega))) (ad (show Is _ (.s 31 dc) (St' (dQ)) from bg (v := St' (dQ)) (ar (l := dQ) 31 dc rfl) (by first | rfl | (simp; done))) (aI))) (by kernel_rfl) (ak := []) (aI) (by kernel_rfl)⟩) aj)) (cK aj) rfl (ad (show Is _ (I6 10) (.int .i64 ((kS s))) from bg (v := .int .i64 10) (ct _ _) (congrArg (Value.int .i64) hq.2.1.symm)) (ad (show Is _ (.s 31 dc) (St' (mS s)) from bg (v := St' (dQ)) (ar (l := dQ) 31 dc rfl) (congrArg (fun l => St' l) (hq.2.2.symm))) (aI))) (runFd_p5 c4)
       ·by_cases h6 : pK (aK (aC s (t + n))) = 0
        ·exact pO c0 c1 c2 c3 c4 hI0 h0 h1 h2 h3 h4 h5 h6
        ·by_cases h7 : (pC (aK (aC s (t + n)))) = 10
         ·have hb := cT c3 c0 i0 (by omega) c2
          have := bQ x n.toNat; have := bR x n.toNat
          have := cq (aC s (t + n))
          have := bQ (aK (aC s (t + n))) 0; have := bR (aK (aC s (t + n))) 0
          have := mQ (l := (aK (aC s (t + n)))) (by assumption); have := mP (pK (aK (aC s (t + n))))
          have hq := nF (s := s) (i := t + n) (j := t + (n + 1)) (by omega) (by omega) i2 (by omega) (by omega) (by omega) (by omega) (by omega) (by assumption)
          have hW := wst (k := t + (x.length : Int)) hq.1
          have ho : ∀ a' r', (a', r') ∈ Ew → aM (iU qb s x t n X) a' r' := by
           unfold Ew
           exact hc (kB0 rfl) <|hc av <|hc bU <|hc dG <|hc au <|hc cN <|hc dm <|hc (fm (s := (aC s (t + n))) (aA rfl) (ar (l := [u8 13]) 1 13 rfl) (aG rfl)) <|hc (bu (aA rfl) (ar (l := ([] : LB)) 0 0 rfl) (fO (by omega))) <|hc jb <|hc eT <|hc eT <|hc (oN (ln := (aK (aC s (t + n)))) (aA rfl) (vb (by assumption) rfl rfl)) <|hc (pw (aA rfl) (b7 (m := 10) rfl) o5 (decide_eq_true (by omega))) <|hnil
          exact pj (tb := aQ2) (L := LFd_p6) rfl (aq.lp2 ((ab _ _).hyps ho) (by omega) gO gN (bK (.inr ⟨⟨rfl, rfl⟩, gx, gw (l := lf12) (h := yk) (q := (0, .b true)) (pC (aK (aC s (t + n)))) (pM (pK (aK (aC s (t + n))))) (by omega) (by first | omega | decide) rfl rfl (by kernel_rfl) (ao := [(0, .x 33), (1, .x 34)]) (ai := [(694, 45)]) (aB (v := .int .i64 ((pC (aK (aC s (t + n)))))) (aB (v := St' (pM (pK (aK (aC s (t + n)))))) (aI))) (by kernel_rfl) (ak := []) (aI) (by kernel_rfl)⟩) aj)) (cK aj) rfl (ah (v := .int .i64 ((pC (aK (aC s (t + n)))))) (u := .int .i64 ((kS s))) rfl rfl (congrArg (Value.int .i64) hq.2.1.symm) (ah (v := St' (pM (pK (aK (aC s (t + n)))))) (u := St' (mS s)) rfl rfl (congrArg (fun l => St' l) (hq.2.2.symm)) (aI))) (runFd_p6 c4)
         ·have hb := cT c3 c0 i0 (by omega) c2
          have := bQ x n.toNat; have := bR x n.toNat
          have := cq (aC s (t + n))
          have := bQ (aK (aC s (t + n))) 0; have := bR (aK (aC s (t + n))) 0
          have := mQ (l := (aK (aC s (t + n)))) (by assumption); have := mP (pK (aK (aC s (t + n))))
          have hq := nF (s := s) (i := t + n) (j := t + (n + 1)) (by omega) (by omega) i2 (by omega) (by omega) (by omega) (by omega) (by omega) (by assumption)
          have hW := wst (k := t + (x.length : Int)) hq.1
          have ho : ∀ a' r', (a', r') ∈ Ev → aM (iU qb s x t n X) a' r' := by
           unfold Ev
           exact hc (kB0 rfl) <|hc av <|hc bU <|hc dG <|hc au <|hc cN <|hc dm <|hc (fm (s := (aC s (t + n))) (aA rfl) (ar (l := [u8 13]) 1 13 rfl) (aG rfl)) <|hc (bu (aA rfl) (ar (l := ([] : LB)) 0 0 rfl) (fO (by omega))) <|hc jb <|hc eT <|hc eT <|hc (oN (ln := (aK (aC s (t + n)))) (aA rfl) (vb (by assumption) rfl rfl)) <|hc (pw (aA rfl) (b7 (m := 10) rfl) o5 (decide_eq_false (by omega))) <|hc (pw (aA rfl) (b7 (m := 12) rfl) o5 (decide_eq_true (by omega))) <|hnil
          exact pj (tb := aQ1) (L := LFd_p7) rfl (aq.lp2 ((ab _ _).hyps ho) (by omega) gO gN (bK (.inr ⟨⟨rfl, rfl⟩, gx, gw (l := lf13) (h := pc) (q := (0, .b true)) (pC (aK (aC s (t + n)))) (pM (pK (aK (aC s (t + n))))) (by omega) (by first | omega | decide) rfl rfl (by kernel_rfl) (ao := [(0, .x 41), (1, .x 42)]) (ai := [(694, 46)]) (aB (v := .int .i64 ((pC (aK (aC s (t + n)))))) (aB (v := St' (pM (pK (aK (aC s (t + n)))))) (aI))) (by kernel_rfl) (ak := []) (aI) (by kernel_rfl)⟩) aj)) (cK aj) rfl (ah (v := .int .i64 ((pC (aK (aC s (t + n)))))) (u := .int .i64 ((kS s))) rfl rfl (congrArg (Value.int .i64) hq.2.1.symm) (ah (v := St' (pM (pK (aK (aC s (t + n)))))) (u := St' (mS s)) rfl rfl (congrArg (fun l => St' l) (hq.2.2.symm)) (aI))) (runFd_p7 c4)
    ·exact pP c0 c1 c2 c3 c4 hI0 h0 h1 h2
  ·exfalso; exact absurd ((CX c0 c1 c2 c3 c4 hI0 h0).symm.trans x0) (by decide)
 ·obtain ⟨g1, g2, g3, g4, g5⟩ := gb (s := s) (i := t + n) (by omega) i2
  have hn0 := hN0
  by_cases h0 : n < (x.length : Int)
  ·by_cases h1 : 1000 < (t + n) + 1
   ·have h6 := List.length_pos_iff.2 (i6 (by omega))
    have hb := cT c3 c0 i0 (by omega) c2
    have := bQ x n.toNat; have := bR x n.toNat
    have hq := Ak (s := s) (i := t + n) (j := t + (n + 1)) (by omega) (by omega) i2 (by omega) (by omega)
    have hW := wst (k := t + (x.length : Int)) hq.1
    have ho : ∀ a' r', (a', r') ∈ E4 → aM (fu qb s x t n X) a' r' := by
     unfold E4
     exact hc av <|hc bU <|hc dG <|hc au <|hc cZ <|hnil
    exact lS (tb := aI0) (L := aZ4) rfl (aq.lp2 ((ab _ _).hyps ho) (by omega) gO gN (bK (.inr ⟨⟨rfl, rfl⟩, gx, gw (l := lf51) (h := lh8) (q := (0, .b true)) 12 (gS) (by omega) (by first | omega | decide) rfl rfl (by kernel_rfl) (ao := [(0, I6 12), (1, .s 33 hU)]) (ai := [(694, 42)]) (ad (show Is _ (I6 12) (.int .i64 (12)) from bg (v := .int .i64 12) (ct _ _) (by first | rfl | (congr 1; omega))) (ad (show Is _ (.s 33 hU) (St' (gS)) from bg (v := St' (gS)) (ar (l := gS) 33 hU rfl) (by first | rfl | (simp; done))) (aI))) (by kernel_rfl) (ak := []) (aI) (by kernel_rfl)⟩) aj)) (cK aj) rfl (ad (show Is _ (I6 12) (.int .i64 ((kS s))) from bg (v := .int .i64 12) (ct _ _) (congrArg (Value.int .i64) hq.2.1.symm)) (ad (show Is _ (.s 33 hU) (St' (mS s)) from bg (v := St' (gS)) (ar (l := gS) 33 hU rfl) (congrArg (fun l => St' l) (hq.2.2.symm))) (aI))) (runFd_p21 c4)
   ·by_cases h2 : bt x n.toNat = 10
    ·by_cases h3 : ((aK (aC s (t + n))).length : Int) = 0
     ·by_cases h4 : dA (aR s (t + n)) = 0
      ·by_cases h5 : dC (aw) (aR s (t + n)) = []
       ·exfalso; exact absurd ((yE c0 c1 c2 c3 c4 hI0 h0 h1 h2 h3 h4 h5).symm.trans x0) (by decide)
       ·exfalso; exact absurd ((yD c0 c1 c2 c3 c4 hI0 h0 h1 h2 h3 h4 h5).symm.trans x0) (by decide)
      ·have h6 := List.length_pos_iff.2 (i6 (by omega))
       have hb := cT c3 c0 i0 (by omega) c2
       have := bQ x n.toNat; have := bR x n.toNat
       have := cq (aC s (t + n))
       have := aQ8 (aR s (t + n))
       have hq := qa (s := s) (i := t + n) (j := t + (n + 1)) (by omega) (by omega) i2 (by omega) (by omega) (by omega) (by omega) (by assumption)
       have hW := wst (k := t + (x.length : Int)) hq.1
       have ho : ∀ a' r', (a', r') ∈ FA → aM (fu qb s x t n X) a' r' := by
        unfold FA
        exact hc (kB0 rfl) <|hc av <|hc bU <|hc dG <|hc au <|hc cN <|hc dm <|hc (fm (s := (aC s (t + n))) (aA rfl) (ar (l := [u8 13]) 1 13 rfl) (aG rfl)) <|hc (bu (aA rfl) (ar (l := ([] : LB)) 0 0 rfl) (mU (by omega))) <|hnil
       exact lS (tb := aI4) (L := aZ8) rfl (aq.lp2 (aq.lp2 ((ab _ _).hyps ho) (by omega) lx AJ (bK (.inr ⟨⟨rfl, rfl⟩, GK, cfSo_1 (l := lf46) (h := pb) (q := (0, .tu [I6 0, .s 0 0, .aZ 63 (.ag [I6 10, .x 63])])) (aR s (t + n)) (by omega) (by assumption) (by assumption) (by omega) (by assumption) (by assumption) rfl rfl (by kernel_rfl) (ao := [(2000000, .x 2000000)]) (ai := []) (aB (v := aN aO (aR s (t + n))) (aI)) (by kernel_rfl) (ak := [(63, .x 0), (2000000, .x 2000000)]) (aB (v := St' (eM (aR s (t + n)))) (aB (v := aN aO (aR s (t + n))) (aI))) (by kernel_rfl)⟩) aj)) (by omega) (dv (by omega) (by omega) gO) gN (bK (.inr ⟨⟨rfl, rfl⟩, gx, gw (l := lf47) (h := lh47) (q := (0, .b true)) 10 (eM (aR s (t + n))) (by omega) (by first | omega | decide) rfl rfl (by kernel_rfl) (ao := [(0, I6 10), (1, .x 63)]) (ai := [(694, 424)]) (ad (show Is _ (I6 10) (.int .i64 (10)) from bg (v := .int .i64 10) (ct _ _) (by first | rfl | (congr 1; omega))) (aB (v := St' (eM (aR s (t + n)))) (aI))) (by kernel_rfl) (ak := []) (aI) (by kernel_rfl)⟩) aj)) (cK aj) rfl (ad (show Is _ (I6 10) (.int .i64 ((kS s))) from bg (v := .int .i64 10) (ct _ _) (congrArg (Value.int .i64) hq.2.1.symm)) (ah (v := St' (eM (aR s (t + n)))) (u := St' (mS s)) rfl rfl (congrArg (fun l => St' l) (hq.2.2.symm)) (aI))) (runFd_p16 c4)
     ·by_cases h4 : bt (aK (aC s (t + n))) 0 = 32
      ·have h6 := List.length_pos_iff.2 (i6 (by omega))
       have hb := cT c3 c0 i0 (by omega) c2
       have := bQ x n.toNat; have := bR x n.toNat
       have := cq (aC s (t + n))
       have := bQ (aK (aC s (t + n))) 0; have := bR (aK (aC s (t + n))) 0
       have hq := nG (s := s) (i := t + n) (j := t + (n + 1)) (by omega) (by omega) i2 (by omega) (by omega) (by omega) (by omega) (by omega)
       have hW := wst (k := t + (x.length : Int)) hq.1
       have ho : ∀ a' r', (a', r') ∈ FF → aM (fu qb s x t n X) a' r' := by
        unfold FF
        exact hc (kB0 rfl) <|hc av <|hc bU <|hc dG <|hc au <|hc cN <|hc dm <|hc (fm (s := (aC s (t + n))) (aA rfl) (ar (l := [u8 13]) 1 13 rfl) (aG rfl)) <|hc (bu (aA rfl) (ar (l := ([] : LB)) 0 0 rfl) (fO (by omega))) <|hc jb <|hc nA <|hnil
       exact lS (tb := aI8) (L := bA2) rfl (aq.lp2 ((ab _ _).hyps ho) (by omega) gO gN (bK (.inr ⟨⟨rfl, rfl⟩, gx, gw (l := lf10) (h := lh9) (q := (0, .b true)) 10 (dQ) (by omega) (by first | omega | decide) rfl rfl (by kernel_rfl) (ao := [(0, I6 10), (1, .s 31 dc)]) (ai := [(694, 43)]) (ad (show Is _ (I6 10) (.int .i64 (10)) from bg (v := .int .i64 10) (ct _ _) (by first | rfl | (congr 1; omega))) (ad (show Is _ (.s 31 dc) (St' (dQ)) from bg (v := St' (dQ)) (ar (l := dQ) 31 dc rfl) (by first | rfl | (simp; done))) (aI))) (by kernel_rfl) (ak := []) (aI) (by kernel_rfl)⟩) aj)) (cK aj) rfl (ad (show Is _ (I6 10) (.int .i64 ((kS s))) from bg (v := .int .i64 10) (ct _ _) (congrArg (Value.int .i64) hq.2.1.symm)) (ad (show Is _ (.s 31 dc) (St' (mS s)) from bg (v := St' (dQ)) (ar (l := dQ) 31 dc rfl) (congrArg (fun l => St' l) (hq.2.2.symm))) (aI))) (runFd_p11 c4)
      ·by_cases h5 : bt (aK (aC s (t + n))) 0 = 9
       ·have h6 := List.length_pos_iff.2 (i6 (by omega))
        have hb := cT c3 c0 i0 (by omega) c2
        have := bQ x n.toNat; have := bR x n.toNat
        have := cq (aC s (t + n))
        have := bQ (aK (aC s (t + n))) 0; have := bR (aK (aC s (t + n))) 0
        have hq := nG (s := s) (i := t + n) (j := t + (n + 1)) (by omega) (by omega) i2 (by omega) (by omega) (by omega) (by omega) (by omega)
        have hW := wst (k := t + (x.length : Int)) hq.1
        have ho : ∀ a' r', (a', r') ∈ FE → aM (fu qb s x t n X) a' r' := by
         unfold FE
         exact hc (kB0 rfl) <|hc av <|hc bU <|hc dG <|hc au <|hc cN <|hc dm <|hc (fm (s := (aC s (t + n))) (aA rfl) (ar (l := [u8 13]) 1 13 rfl) (aG rfl)) <|hc (bu (aA rfl) (ar (l := ([] : LB)) 0 0 rfl) (fO (by omega))) <|hc jb <|hc eT <|hc nA <|hnil
        exact lS (tb := aI7) (L := bA1) rfl (aq.lp2 ((ab _ _).hyps ho) (by omega) gO gN (bK (.inr ⟨⟨rfl, rfl⟩, gx, gw (l := lf10) (h := lh9) (q := (0, .b true)) 10 (dQ) (by omega) (by first | omega | decide) rfl rfl (by kernel_rfl) (ao := [(0, I6 10), (1, .s 31 dc)]) (ai := [(694, 43)]) (ad (show Is _ (I6 10) (.int .i64 (10)) from bg (v := .int .i64 10) (ct _ _) (by first | rfl | (congr 1; omega))) (ad (show Is _ (.s 31 dc) (St' (dQ)) from bg (v := St' (dQ)) (ar (l := dQ) 31 dc rfl) (by first | rfl | (simp; done))) (aI))) (by kernel_rfl) (ak := []) (aI) (by kernel_rfl)⟩) aj)) (cK aj) rfl (ad (show Is _ (I6 10) (.int .i64 ((kS s))) from bg (v := .int .i64 10) (ct _ _) (congrArg (Value.int .i64) hq.2.1.symm)) (ad (show Is _ (.s 31 dc) (St' (mS s)) from bg (v := St' (dQ)) (ar (l := dQ) 31 dc rfl) (congrArg (fun l => St' l) (hq.2.2.symm))) (aI))) (runFd_p12 c4)
       ·by_cases h6 : pK (aK (aC s (t + n))) = 0
        ·by_cases h7 : 32 < ((aR s (t + n)).length : Int) + 1
         ·have h6 := List.length_pos_iff.2 (i6 (by omega))
          have hb := cT c3 c0 i0 (by omega) c2
          have := bQ x n.toNat; have := bR x n.toNat
          have := cq (aC s (t + n))
          have := bQ (aK (aC s (t + n))) 0; have := bR (aK (aC s (t + n))) 0
          have hq := c_my (s := s) (i := t + n) (j := t + (n + 1)) (by omega) (by omega) i2 (by omega) (by omega) (by omega) (by omega) (by omega) (by assumption) (by omega)
          have hW := wst (k := t + (x.length : Int)) hq.1
          have ho : ∀ a' r', (a', r') ∈ E8 → aM (fu qb s x t n X) a' r' := by
           unfold E8
           exact hc (kB0 rfl) <|hc av <|hc bU <|hc dG <|hc au <|hc cN <|hc dm <|hc (fm (s := (aC s (t + n))) (aA rfl) (ar (l := [u8 13]) 1 13 rfl) (aG rfl)) <|hc (bu (aA rfl) (ar (l := ([] : LB)) 0 0 rfl) (fO (by omega))) <|hc jb <|hc eT <|hc eT <|hc (oN (ln := (aK (aC s (t + n)))) (aA rfl) (CG (by assumption) rfl rfl)) <|hc (sx (f := aO) (l := (aR s (t + n))) (a := ((pA (aK (aC s (t + n)))), (pB (aK (aC s (t + n)))))) (aA rfl) (tH (aA rfl) (aA rfl)) (aG rfl)) <|hc (lV cL (aA rfl) (by first | omega | (simp <;> omega)) (by first | omega | (simp <;> omega))) <|hc (fQ cL (aA rfl) (aG rfl) (by first | omega | (simp <;> omega))) <|hc cZ <|hnil
          exact lS (tb := aI2) (L := aZ6) rfl (aq.lp2 ((ab _ _).hyps ho) (by omega) gO gN (bK (.inr ⟨⟨rfl, rfl⟩, gx, gw (l := lf50) (h := pc) (q := (0, .b true)) 12 (mC) (by omega) (by first | omega | decide) rfl rfl (by kernel_rfl) (ao := [(0, I6 12), (1, .s 15 zn7)]) (ai := [(694, 46)]) (ad (show Is _ (I6 12) (.int .i64 (12)) from bg (v := .int .i64 12) (ct _ _) (by first | rfl | (congr 1; omega))) (ad (show Is _ (.s 15 zn7) (St' (mC)) from bg (v := St' (mC)) (ar (l := mC) 15 zn7 rfl) (by first | rfl | (simp; done))) (aI))) (by kernel_rfl) (ak := []) (aI) (by kernel_rfl)⟩) aj)) (cK aj) rfl (ad (show Is _ (I6 12) (.int .i64 ((kS s))) from bg (v := .int .i64 12) (ct _ _) (congrArg (Value.int .i64) hq.2.1.symm)) (ad (show Is _ (.s 15 zn7) (St' (mS s)) from bg (v := St' (mC)) (ar (l := mC) 15 zn7 rfl) (congrArg (fun l => St' l) (hq.2.2.symm))) (aI))) (runFd_p18 c4)
         ·exact pQ c0 c1 c2 c3 c4 hI0 h0 h1 h2 h3 h4 h5 h6 h7
        ·by_cases h7 : (pC (aK (aC s (t + n)))) = 10
         ·have h6 := List.length_pos_iff.2 (i6 (by omega))
          have hb := cT c3 c0 i0 (by omega) c2
          have := bQ x n.toNat; have := bR x n.toNat
          have := cq (aC s (t + n))
          have := bQ (aK (aC s (t + n))) 0; have := bR (aK (aC s (t + n))) 0
          have := mQ (l := (aK (aC s (t + n)))) (by assumption); have := mP (pK (aK (aC s (t + n))))
          have hq := nF (s := s) (i := t + n) (j := t + (n + 1)) (by omega) (by omega) i2 (by omega) (by omega) (by omega) (by omega) (by omega) (by assumption)
          have hW := wst (k := t + (x.length : Int)) hq.1
          have ho : ∀ a' r', (a', r') ∈ FD → aM (fu qb s x t n X) a' r' := by
           unfold FD
           exact hc (kB0 rfl) <|hc av <|hc bU <|hc dG <|hc au <|hc cN <|hc dm <|hc (fm (s := (aC s (t + n))) (aA rfl) (ar (l := [u8 13]) 1 13 rfl) (aG rfl)) <|hc (bu (aA rfl) (ar (l := ([] : LB)) 0 0 rfl) (fO (by omega))) <|hc jb <|hc eT <|hc eT <|hc (oN (ln := (aK (aC s (t + n)))) (aA rfl) (vb (by assumption) rfl rfl)) <|hc (pw (aA rfl) (b7 (m := 10) rfl) o5 (decide_eq_true (by omega))) <|hnil
          exact lS (tb := aI6) (L := bA0) rfl (aq.lp2 ((ab _ _).hyps ho) (by omega) gO gN (bK (.inr ⟨⟨rfl, rfl⟩, gx, gw (l := lf44) (h := yk) (q := (0, .b true)) (pC (aK (aC s (t + n)))) (pM (pK (aK (aC s (t + n))))) (by omega) (by first | omega | decide) rfl rfl (by kernel_rfl) (ao := [(0, .x 38), (1, .x 39)]) (ai := [(694, 45)]) (aB (v := .int .i64 ((pC (aK (aC s (t + n)))))) (aB (v := St' (pM (pK (aK (aC s (t + n)))))) (aI))) (by kernel_rfl) (ak := []) (aI) (by kernel_rfl)⟩) aj)) (cK aj) rfl (ah (v := .int .i64 ((pC (aK (aC s (t + n)))))) (u := .int .i64 ((kS s))) rfl rfl (congrArg (Value.int .i64) hq.2.1.symm) (ah (v := St' (pM (pK (aK (aC s (t + n)))))) (u := St' (mS s)) rfl rfl (congrArg (fun l => St' l) (hq.2.2.symm)) (aI))) (runFd_p13 c4)
         ·have h6 := List.length_pos_iff.2 (i6 (by omega))
          have hb := cT c3 c0 i0 (by omega) c2
          have := bQ x n.toNat; have := bR x n.toNat
          have := cq (aC s (t + n))
          have := bQ (aK (aC s (t + n))) 0; have := bR (aK (aC s (t + n))) 0
          have := mQ (l := (aK (aC s (t + n)))) (by assumption); have := mP (pK (aK (aC s (t + n))))
          have hq := nF (s := s) (i := t + n) (j := t + (n + 1)) (by omega) (by omega) i2 (by omega) (by omega) (by omega) (by omega) (by omega) (by assumption)
          have hW := wst (k := t + (x.length : Int)) hq.1
          have ho : ∀ a' r', (a', r') ∈ FC → aM (fu qb s x t n X) a' r' := by
           unfold FC
           exact hc (kB0 rfl) <|hc av <|hc bU <|hc dG <|hc au <|hc cN <|hc dm <|hc (fm (s := (aC s (t + n))) (aA rfl) (ar (l := [u8 13]) 1 13 rfl) (aG rfl)) <|hc (bu (aA rfl) (ar (l := ([] : LB)) 0 0 rfl) (fO (by omega))) <|hc jb <|hc eT <|hc eT <|hc (oN (ln := (aK (aC s (t + n)))) (aA rfl) (vb (by assumption) rfl rfl)) <|hc (pw (aA rfl) (b7 (m := 10) rfl) o5 (decide_eq_false (by omega))) <|hc (pw (aA rfl) (b7 (m := 12) rfl) o5 (decide_eq_true (by omega))) <|hnil
          exact lS (tb := aI5) (L := aZ9) rfl (aq.lp2 ((ab _ _).hyps ho) (by omega) gO gN (bK (.inr ⟨⟨rfl, rfl⟩, gx, gw (l := lf45) (h := pc) (q := (0, .b true)) (pC (aK (aC s (t + n)))) (pM (pK (aK (aC s (t + n))))) (by omega) (by first | omega | decide) rfl rfl (by kernel_rfl) (ao := [(0, .x 46), (1, .x 47)]) (ai := [(694, 46)]) (aB (v := .int .i64 ((pC (aK (aC s (t + n)))))) (aB (v := St' (pM (pK (aK (aC s (t + n)))))) (aI))) (by kernel_rfl) (ak := []) (aI) (by kernel_rfl)⟩) aj)) (cK aj) rfl (ah (v := .int .i64 ((pC (aK (aC s (t + n)))))) (u := .int .i64 ((kS s))) rfl rfl (congrArg (Value.int .i64) hq.2.1.symm) (ah (v := St' (pM (pK (aK (aC s (t + n)))))) (u := St' (mS s)) rfl rfl (congrArg (fun l => St' l) (hq.2.2.symm)) (aI))) (runFd_p14 c4)
    ·exact pL c0 c1 c2 c3 c4 hI0 h0 h1 h2
  ·exfalso; exact absurd ((CZ c0 c1 c2 c3 c4 hI0 h0).symm.trans x0) (by decide)
theorem ma (qb : Nat) (s x : LB) (t : Int) (c0 : 0 ≤ t) (c1 : s.length ≤ 1500) (c2 : t + (x.length : Int) ≤ (s.length : Int)) (c3 : xG s x t) (c4 : qb = 4 ∨ qb = 5 ∨ qb = 6) (x0 : wG s (t + (x.length : Int)) = 2) : bI (cx nu one 1 aH aQ) (EFd_5 qb s x t) cz cB 58 .ret 4 40 42 904 (jI qb) (kR qb) [(4, .s 0 0), (5, .aZ 63 (.ag [.x 0, .x 1]))] [] (cO qb s x t) (kq qb s x t) :=
 dW (iF qb s x t) (fun _ _ => rfl) (fun _ _ => rfl) (fun _ _ => rfl) (fun st X t ht => dT.trans (dS ((by decide : ∀ t, t ∈ cB → t < 1000000) t ht))) rfl rfl rfl (qY qb) rfl rfl (roundsFd_5 qb s x t c0 c1 c2 c3 c4 x0)
end Go.Proofs.YtcjanblpboaleaaDoor.cgiCuts

