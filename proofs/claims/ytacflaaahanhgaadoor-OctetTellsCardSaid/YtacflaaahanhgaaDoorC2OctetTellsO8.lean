/- A part of the proof: an interpreter of the model's own code on partly known states, and that what it answers is what the program answers. No condition of its own. -/
import Derived.Test.YtacflaaahanhgaaDoorC2OctetTellsO7
set_option maxRecDepth 100000
set_option linter.unusedVariables false
set_option linter.unusedSimpArgs false
set_option maxHeartbeats 4000000
namespace Go.Proofs.YtacflaaahanhgaaDoor.octetTells
open Go Go.AX Go.Proofs Go.Proofs.YtacflaaahanhgaaDoor
variable {nu : Nat → Value} {one : ∀ i, i < 1000000 → (nu i).oneCell' = true} {E' : Cx} {x' : Ex} {e' : LA} {h' : LE}
theorem nibD {c : Int} (b0 : 0 ≤ c) (b1 : c ≤ 255) : (vNib c < 0 ∧ ¬ vDgt c < 16) ∨ (0 ≤ vNib c ∧ vNib c = vDgt c ∧ vDgt c < 16) := by
  obtain ⟨n, rfl⟩ := Int.eq_ofNat_of_zero_le b0
  have h : ∀ m : Fin 256, (LNib.getD m.val 0 < 0 ∧ ¬ LDgt.getD m.val 0 < 16) ∨ (0 ≤ LNib.getD m.val 0 ∧ LNib.getD m.val 0 = LDgt.getD m.val 0 ∧ LDgt.getD m.val 0 < 16) := by decide +kernel
  exact h ⟨n, by omega⟩
theorem dgt0 {c : Int} (b0 : 0 ≤ c) (b1 : c ≤ 255) : 0 ≤ vDgt c := by
  obtain ⟨n, rfl⟩ := Int.eq_ofNat_of_zero_le b0
  have h : ∀ m : Fin 256, 0 ≤ LDgt.getD m.val 0 := by decide +kernel
  exact h ⟨n, by omega⟩
theorem bt_dropI {l : LB} {i j : Nat} : bt (l.drop i) j = bt l (i + j) := by
  unfold bt; rw [List.getD_eq_getElem?_getD, List.getD_eq_getElem?_getD, List.getElem?_drop]
section
variable {s : LB} {i j E : Int}
theorem ur_b (h0 : 0 ≤ i) (k : Nat) (hj : j = i + k) : bt (s.drop i.toNat) k = bt s j.toNat := by
  rw [bt_dropI, show i.toNat + k = j.toNat by omega]
theorem ur_d (h0 : 0 ≤ i) (k : Nat) (hj : j = i + k) : (s.drop i.toNat).drop k = s.drop j.toNat := by
  rw [List.drop_drop, show i.toNat + k = j.toNat by omega]
theorem ur_plain (h0 : 0 ≤ i) (h : i < (s.length : Int)) (h1 : ¬ bt s (Int.toNat (i)) = 37) (hj : j = i + 1) : unS (s.drop (Int.toNat i)) = (unS (s.drop (Int.toNat j))).map (u8 (bt s (Int.toNat (i))) :: ·) := by
  have e := ur_b (s := s) (j := i) h0 0 (by omega)
  rw [un_plain (by rw [List.length_drop]; omega) (by rw [e]; exact h1), e, ur_d (j := j) h0 1 (by omega)]
theorem ur_short (h0 : 0 ≤ i) (h : i < (s.length : Int)) (h1 : bt s (Int.toNat (i)) = 37) (h2 : (s.length : Int) ≤ i + 2) : unS (s.drop (Int.toNat i)) = none := by
  have e := ur_b (s := s) (j := i) h0 0 (by omega)
  exact un_short (by rw [List.length_drop]; omega) (by rw [e]; exact h1) (by rw [List.length_drop]; omega)
theorem ur_bad (h0 : 0 ≤ i) (h1 : bt s (Int.toNat (i)) = 37) (h2 : ¬ (s.length : Int) ≤ i + 2) (h3 : ¬ (vDgt (bt s (Int.toNat (i + 1))) < 16 ∧ vDgt (bt s (Int.toNat (i + 2))) < 16 ∧ ¬ (vDgt (bt s (Int.toNat (i + 1))) * 16 + vDgt (bt s (Int.toNat (i + 2))) = 0))) : unS (s.drop (Int.toNat i)) = none := by
  have e := ur_b (s := s) (j := i) h0 0 (by omega)
  have e1 := ur_b (s := s) (j := i + 1) h0 1 (by omega)
  have e2 := ur_b (s := s) (j := i + 2) h0 2 (by omega)
  exact un_bad (by rw [e]; exact h1) (by rw [List.length_drop]; omega) (by rw [e1, e2]; exact h3)
theorem ur_esc (h0 : 0 ≤ i) (h1 : bt s (Int.toNat (i)) = 37) (h2 : ¬ (s.length : Int) ≤ i + 2) (h3 : vDgt (bt s (Int.toNat (i + 1))) < 16 ∧ vDgt (bt s (Int.toNat (i + 2))) < 16 ∧ ¬ (vDgt (bt s (Int.toNat (i + 1))) * 16 + vDgt (bt s (Int.toNat (i + 2))) = 0)) (hE : E = vDgt (bt s (Int.toNat (i + 1))) * 16 + vDgt (bt s (Int.toNat (i + 2)))) (hj : j = i + 3) : unS (s.drop (Int.toNat i)) = (unS (s.drop (Int.toNat j))).map (u8 (E % 256) :: ·) := by
  have e := ur_b (s := s) (j := i) h0 0 (by omega)
  have e1 := ur_b (s := s) (j := i + 1) h0 1 (by omega)
  have e2 := ur_b (s := s) (j := i + 2) h0 2 (by omega)
  rw [un_esc (by rw [e]; exact h1) (by rw [List.length_drop]; omega) (by rw [e1, e2]; exact h3), e1, e2, ur_d (j := j) h0 3 (by omega), hE]
end
noncomputable def bodyUr : Code := loopNo (Tryd.f19.body.getD .skip) 0
theorem keyUr : oneKey (loopsOf (Tryd.f19.body.getD .skip)) 3 0 0 = true := by kernel_rfl
def keepUr : List Nat := []
def epUr_0 : LA := [(0, .x 0), (2, .s 0 0), (3, .i .i64 (.ofNat 0)), (4, .nils), (5, .x 1)]
def hpUr_0 : LE := []
def nuUr_0 (s T : LB) (i : Int) (b : LB) : List Value := [St' s, .int .i64 (i), St' ([] : LB), .int .i64 ((s.length : Int)), .int .u8 (bt s (Int.toNat (i))), St' ([u8 (bt s (Int.toNat (i)))]), .int .u8 (bt s (Int.toNat (i))), .int .i64 (i + 1), St' ([] : LB), .int .i64 ((s.length : Int)), St' ([] : LB), .int .i64 ((s.length : Int)), .int .u8 (bt s (Int.toNat (i))), .int .i64 (i + 2), St' ([] : LB), .int .i64 ((s.length : Int)), .int .u8 (bt s (Int.toNat (i))), .int .i64 (i + 2), .int .i64 (i + 1), .int .u8 (bt s (Int.toNat (i + 1))), .int .i64 (vNib (bt s (Int.toNat (i + 1)))), .int .u8 (bt s (Int.toNat (i + 2))), .int .i64 (vNib (bt s (Int.toNat (i + 2)))), St' ([] : LB), .int .i64 ((s.length : Int)), .int .u8 (bt s (Int.toNat (i))), .int .i64 (i + 2), .int .i64 (i + 1), .int .u8 (bt s (Int.toNat (i + 1))), .int .i64 (vNib (bt s (Int.toNat (i + 1)))), .int .u8 (bt s (Int.toNat (i + 2))), .int .i64 (vNib (bt s (Int.toNat (i + 2)))), St' ([] : LB), .int .i64 ((s.length : Int)), .int .u8 (bt s (Int.toNat (i))), .int .i64 (i + 2), .int .i64 (i + 1), .int .u8 (bt s (Int.toNat (i + 1))), .int .i64 (vNib (bt s (Int.toNat (i + 1)))), .int .u8 (bt s (Int.toNat (i + 2))), .int .i64 (vNib (bt s (Int.toNat (i + 2)))), .int .i64 ((vNib (bt s (Int.toNat (i + 1)))) + (vNib (bt s (Int.toNat (i + 2))))), St' ([] : LB), .int .i64 ((s.length : Int)), .int .u8 (bt s (Int.toNat (i))), .int .i64 (i + 2), .int .i64 (i + 1), .int .u8 (bt s (Int.toNat (i + 1))), .int .i64 (vNib (bt s (Int.toNat (i + 1)))), .int .u8 (bt s (Int.toNat (i + 2))), .int .i64 (vNib (bt s (Int.toNat (i + 2)))), .int .i64 ((vNib (bt s (Int.toNat (i + 1)))) + (vNib (bt s (Int.toNat (i + 2))))), .int .i64 ((vNib (bt s (Int.toNat (i + 1)))) * 16), .int .i64 ((vNib (bt s (Int.toNat (i + 1)))) * 16 + (vNib (bt s (Int.toNat (i + 2))))), .int .u8 (((vNib (bt s (Int.toNat (i + 1)))) * 16 + (vNib (bt s (Int.toNat (i + 2))))) % 256), St' ([u8 (((vNib (bt s (Int.toNat (i + 1)))) * 16 + (vNib (bt s (Int.toNat (i + 2))))) % 256)]), .int .u8 (((vNib (bt s (Int.toNat (i + 1)))) * 16 + (vNib (bt s (Int.toNat (i + 2))))) % 256), .int .i64 (i + 3)]
def roUr_0 (s T : LB) (i : Int) (b : LB) : List Value := []
def epUr_1 : LA := [(0, .x 0), (2, .s 0 0), (3, .i .i64 (.ofNat 0)), (4, .sy 7), (5, .x 1)]
def hpUr_1 : LE := [(7, .t 2 5)]
def nuUr_1 (s T : LB) (i : Int) (b : LB) : List Value := [St' s, .int .i64 (i), St' b, St' ([] : LB), .int .i64 ((s.length : Int)), .int .u8 (bt s (Int.toNat (i))), St' (b ++ [u8 (bt s (Int.toNat (i)))]), .int .i64 (i + 1), St' ([] : LB), .int .i64 ((s.length : Int)), St' ([] : LB), .int .i64 ((s.length : Int)), .int .u8 (bt s (Int.toNat (i))), .int .i64 (i + 2), St' ([] : LB), .int .i64 ((s.length : Int)), .int .u8 (bt s (Int.toNat (i))), .int .i64 (i + 2), .int .i64 (i + 1), .int .u8 (bt s (Int.toNat (i + 1))), .int .i64 (vNib (bt s (Int.toNat (i + 1)))), .int .u8 (bt s (Int.toNat (i + 2))), .int .i64 (vNib (bt s (Int.toNat (i + 2)))), St' ([] : LB), .int .i64 ((s.length : Int)), .int .u8 (bt s (Int.toNat (i))), .int .i64 (i + 2), .int .i64 (i + 1), .int .u8 (bt s (Int.toNat (i + 1))), .int .i64 (vNib (bt s (Int.toNat (i + 1)))), .int .u8 (bt s (Int.toNat (i + 2))), .int .i64 (vNib (bt s (Int.toNat (i + 2)))), St' ([] : LB), .int .i64 ((s.length : Int)), .int .u8 (bt s (Int.toNat (i))), .int .i64 (i + 2), .int .i64 (i + 1), .int .u8 (bt s (Int.toNat (i + 1))), .int .i64 (vNib (bt s (Int.toNat (i + 1)))), .int .u8 (bt s (Int.toNat (i + 2))), .int .i64 (vNib (bt s (Int.toNat (i + 2)))), .int .i64 ((vNib (bt s (Int.toNat (i + 1)))) + (vNib (bt s (Int.toNat (i + 2))))), St' ([] : LB), .int .i64 ((s.length : Int)), .int .u8 (bt s (Int.toNat (i))), .int .i64 (i + 2), .int .i64 (i + 1), .int .u8 (bt s (Int.toNat (i + 1))), .int .i64 (vNib (bt s (Int.toNat (i + 1)))), .int .u8 (bt s (Int.toNat (i + 2))), .int .i64 (vNib (bt s (Int.toNat (i + 2)))), .int .i64 ((vNib (bt s (Int.toNat (i + 1)))) + (vNib (bt s (Int.toNat (i + 2))))), .int .i64 ((vNib (bt s (Int.toNat (i + 1)))) * 16), .int .i64 ((vNib (bt s (Int.toNat (i + 1)))) * 16 + (vNib (bt s (Int.toNat (i + 2))))), .int .u8 (((vNib (bt s (Int.toNat (i + 1)))) * 16 + (vNib (bt s (Int.toNat (i + 2))))) % 256), St' (b ++ [u8 (((vNib (bt s (Int.toNat (i + 1)))) * 16 + (vNib (bt s (Int.toNat (i + 2))))) % 256)]), .int .i64 (i + 3)]
def roUr_1 (s T : LB) (i : Int) (b : LB) : List Value := []
def epUr (st : Nat × Int × LB) : LA := if st.1 = 0 then epUr_0 else epUr_1
def hpUr (st : Nat × Int × LB) : LE := if st.1 = 0 then hpUr_0 else hpUr_1
def nuUr (s T : LB) (st : Nat × Int × LB) : List Value := if st.1 = 0 then nuUr_0 s T (st.2.1) (st.2.2) else nuUr_1 s T (st.2.1) (st.2.2)
def roUr (s T : LB) (st : Nat × Int × LB) : List Value := if st.1 = 0 then roUr_0 s T (st.2.1) (st.2.2) else roUr_1 s T (st.2.1) (st.2.2)
theorem onUr (s T : LB) (st : Nat × Int × LB) : ∀ j, (nuL (nuUr s T st) j).oneCell' = true := by
  intro j
  unfold nuUr
  split
  · exact nuL_one (l := nuUr_0 s T (st.2.1) (st.2.2)) rfl j
  exact nuL_one (l := nuUr_1 s T (st.2.1) (st.2.2)) rfl j
theorem ebUr (st : Nat × Int × LB) : (lfB (epUr st) && lfC keepUr) = true := by
  unfold epUr
  split
  · rfl
  rfl
noncomputable def DUr (s T : LB) (st : Nat × Int × LB) (X : Nat → Value) : Cx := cx (nuX (nuUr s T st) (rX (roUr s T st) X)) (nuX_one (onUr s T st)) 1 laidE laidE_stab
def InvUr (s T : LB) (st : Nat × Int × LB) : Prop := (0 ≤ (st.2.1)) ∧ ((st.2.1) ≤ (s.length : Int)) ∧ (unO (st.2.2) (s.drop (Int.toNat (st.2.1))) = unS s) ∧ ((st.1) = 0 → (st.2.2) = []) ∧ ((st.1) = 1 → 1 ≤ (st.2.2).length) ∧ (((st.2.2).length : Int) ≤ (st.2.1)) ∧ ((st.1) < 2)
abbrev CjUr (s T : LB) (tag : Nat) (i : Int) (b : LB) : Prop := (0 ≤ i) ∧ (i ≤ (s.length : Int)) ∧ (unO b (s.drop (Int.toNat i)) = unS s) ∧ (tag = 0 → b = []) ∧ (tag = 1 → 1 ≤ b.length) ∧ ((b.length : Int) ≤ i) ∧ (tag < 2)
theorem mkIUr (s T : LB) (tag : Nat) (i : Int) (b : LB) (h : CjUr s T tag i b) : InvUr s T (tag, i, b) := h
theorem unIUr (s T : LB) (tag : Nat) (i : Int) (b : LB) (h : InvUr s T (tag, i, b)) : (0 ≤ i) ∧ (i ≤ (s.length : Int)) ∧ (unO b (s.drop (Int.toNat i)) = unS s) ∧ (tag = 0 → b = []) ∧ (tag = 1 → 1 ≤ b.length) ∧ ((b.length : Int) ≤ i) ∧ (tag < 2) := h
def muUr (s T : LB) (st : Nat × Int × LB) : Nat := (s.length - (st.2.1).toNat)
abbrev RHUr (s T : LB) (E' : Cx) (ex' : Ex) (epx' : LA) (hpx' : LE) (st : Nat × Int × LB) (X : Nat → Value) : Prop := RoundH E' bodyUr keepUr 63 ex' 7 7 8 11 epUr hpUr epx' hpx' (InvUr s T) (muUr s T) (DUr s T) st X
noncomputable abbrev RNUr_0 (h : LK) (x : Ex) (th : LA) (sg : List (Nat × Nat)) (m : Nat) (ep : LA) (hp : LE) : Bool := okRdH (code (tbl h) 2000 [] bodyUr (envOf (headOf epUr_0 keepUr) 63) ⟨lhSet hpUr_0 .leaf, 8, 0, 0⟩) x keepUr 63 11 th sg 7 m ep hp
theorem stUr_0 (s T : LB) (i : Int) (b : LB) {X : Nat → Value} {h : LK} (y : Nat × Int × LB) {th : LA} {sg : List (Nat × Nat)} (ho : ∀ a' r', (a', r') ∈ h → HOk (cx (nuX (nuUr_0 s T i b) (rX (roUr_0 s T i b) X)) (nuX_one (nuL_one (l := nuUr_0 s T i b) rfl)) 1 laidE laidE_stab) a' r') (hy : InvUr s T y) (lt : muUr s T y < muUr s T (0, i, b)) (ht : ThOk (cx (nuX (nuUr_0 s T i b) (rX (roUr_0 s T i b) X)) (nuX_one (nuL_one (l := nuUr_0 s T i b) rfl)) 1 laidE laidE_stab) (DUr s T y X) th) (run : RNUr_0 h .normal th sg 8 (epUr y) (hpUr y) = true) : RHUr s T E' x' e' h' (0, i, b) X :=
  RoundH.next (tb := tbl h) (L := []) (f := 2000) y ((tabkOk _ _).hyps ho) (LpOk.nil _) rfl hy lt ht run
theorem lvUr_0 (s T : LB) (i : Int) (b : LB) {X : Nat → Value} {h : LK} {th : LA} {sg : List (Nat × Nat)} (hne : exB x' .normal = false) (ho : ∀ a' r', (a', r') ∈ h → HOk (cx (nuX (nuUr_0 s T i b) (rX (roUr_0 s T i b) X)) (nuX_one (nuL_one (l := nuUr_0 s T i b) rfl)) 1 laidE laidE_stab) a' r') (ht : ThOk (cx (nuX (nuUr_0 s T i b) (rX (roUr_0 s T i b) X)) (nuX_one (nuL_one (l := nuUr_0 s T i b) rfl)) 1 laidE laidE_stab) E' th) (run : RNUr_0 h x' th sg 11 e' h' = true) : RHUr s T E' x' e' h' (0, i, b) X :=
  RoundH.leave (tb := tbl h) (L := []) (f := 2000) ((tabkOk _ _).hyps ho) (LpOk.nil _) rfl hne ht run
noncomputable abbrev RNUr_1 (h : LK) (x : Ex) (th : LA) (sg : List (Nat × Nat)) (m : Nat) (ep : LA) (hp : LE) : Bool := okRdH (code (tbl h) 2000 [] bodyUr (envOf (headOf epUr_1 keepUr) 63) ⟨lhSet hpUr_1 .leaf, 8, 0, 0⟩) x keepUr 63 11 th sg 7 m ep hp
theorem stUr_1 (s T : LB) (i : Int) (b : LB) {X : Nat → Value} {h : LK} (y : Nat × Int × LB) {th : LA} {sg : List (Nat × Nat)} (ho : ∀ a' r', (a', r') ∈ h → HOk (cx (nuX (nuUr_1 s T i b) (rX (roUr_1 s T i b) X)) (nuX_one (nuL_one (l := nuUr_1 s T i b) rfl)) 1 laidE laidE_stab) a' r') (hy : InvUr s T y) (lt : muUr s T y < muUr s T (1, i, b)) (ht : ThOk (cx (nuX (nuUr_1 s T i b) (rX (roUr_1 s T i b) X)) (nuX_one (nuL_one (l := nuUr_1 s T i b) rfl)) 1 laidE laidE_stab) (DUr s T y X) th) (run : RNUr_1 h .normal th sg 8 (epUr y) (hpUr y) = true) : RHUr s T E' x' e' h' (1, i, b) X :=
  RoundH.next (tb := tbl h) (L := []) (f := 2000) y ((tabkOk _ _).hyps ho) (LpOk.nil _) rfl hy lt ht run
theorem lvUr_1 (s T : LB) (i : Int) (b : LB) {X : Nat → Value} {h : LK} {th : LA} {sg : List (Nat × Nat)} (hne : exB x' .normal = false) (ho : ∀ a' r', (a', r') ∈ h → HOk (cx (nuX (nuUr_1 s T i b) (rX (roUr_1 s T i b) X)) (nuX_one (nuL_one (l := nuUr_1 s T i b) rfl)) 1 laidE laidE_stab) a' r') (ht : ThOk (cx (nuX (nuUr_1 s T i b) (rX (roUr_1 s T i b) X)) (nuX_one (nuL_one (l := nuUr_1 s T i b) rfl)) 1 laidE laidE_stab) E' th) (run : RNUr_1 h x' th sg 11 e' h' = true) : RHUr s T E' x' e' h' (1, i, b) X :=
  RoundH.leave (tb := tbl h) (L := []) (f := 2000) ((tabkOk _ _).hyps ho) (LpOk.nil _) rfl hne ht run
def hyUr_p0 : LK := [(.bytes [], .x 2), (.len (.x 0), .x 3), (.bin .lss (.x 1) (.x 3), .b true), (.idx (.x 0) (.x 1), .x 4), (.bin .neq (.x 4) (.i .u8 (.ofNat 37)), .b true), (.app (.x 2) [.x 4], .x 5), (.byt (.x 5) (.i .i64 (.ofNat 0)), .x 6), (.fit (.x 5), .b true), (.bin .add (.x 1) (.i .i64 (.ofNat 1)), .x 7)]
theorem runUr_p0 : RNUr_0 hyUr_p0 .normal [(0, .x 0), (1, .x 7), (2, .x 5)] [(7, 9)] 8 epUr_1 hpUr_1 = true := by kernel_rfl
theorem nxUr_p0 (s T : LB) (c0 : s.length ≤ 400) (i : Int) (b : LB) (X : Nat → Value) (hI : InvUr s T (0, i, b)) (h0 : i < (s.length : Int)) (h1 : ¬ (bt s (Int.toNat (i)) = 37)) : RHUr s T E' x' e' h' (0, i, b) X := by
  obtain ⟨i0, i1, i2, i3, i4, i5, it⟩ := unIUr s T 0 i b hI
  have := bt_lo s (Int.toNat (i)); have := bt_hi s (Int.toNat (i))
  refine stUr_0 s T i b (h := hyUr_p0) (1, i + 1, [u8 (bt s (Int.toNat (i)))]) ?_ (mkIUr s T 1 (i + 1) ([u8 (bt s (Int.toNat (i)))]) ⟨by omega, by omega, by rw [← i2, i3 rfl]; exact unO_cons0 (ur_plain (by omega) (by omega) (by omega) (by omega)), fun h => by omega, fun _ => by simp, by simp only [List.length_append, List.length_cons, List.length_nil]; omega, by omega⟩) (by show s.length - (i + 1).toNat < s.length - i.toNat; omega) (thXv (v := St' s) rfl rfl (thXi (b := ((i + 1))) rfl rfl (by omega) (thXv (v := St' ([u8 (bt s (Int.toNat (i)))])) rfl rfl (thNil)))) runUr_p0
  unfold hyUr_p0
  exact hc (kBytesB (bs := ([] : LB)) .nil (denX rfl)) <|
   hc (lnV rfl rfl (by omega)) <|
   hc (ltT rfl rfl (by omega)) <|
   hc (ixV rfl rfl rfl (by omega)) <|
   hc (necT rfl (by omega)) <|
   hc (kApp (bs := [u8 (bt s (Int.toNat (i)))]) (isX rfl) (.cons (isB8 (isX rfl) (by omega) (by omega)) .nil) (denX rfl) (by first | rfl | (simp; done))) <|
   hc (kByt (i := 0) (isX rfl) (isZ (m := 0) rfl) (denX rfl) rfl (by simp) (bt_at rfl (by omega) (by omega))) <|
   hc (kFit (isX rfl) (by first | omega | (simp <;> omega))) <|
   hc (adC rfl rfl (by omega)) <|
   hnil
def hyUr_p1 : LK := [(.bytes [], .x 8), (.len (.x 0), .x 9), (.bin .lss (.x 1) (.x 9), .b false)]
theorem runUr_p1 : RNUr_0 hyUr_p1 (.exit 0) [] [] 11 [(2, .s 0 0), (3, .i .i64 (.ofNat 0)), (4, .nils)] [] = true := by kernel_rfl
def hyUr_p2 : LK := [(.bytes [], .x 10), (.len (.x 0), .x 11), (.bin .lss (.x 1) (.x 11), .b true), (.idx (.x 0) (.x 1), .x 12), (.bin .neq (.x 12) (.i .u8 (.ofNat 37)), .b false), (.bin .add (.x 1) (.i .i64 (.ofNat 2)), .x 13), (.bin .geq (.x 13) (.x 11), .b true)]
theorem runUr_p2 : RNUr_0 hyUr_p2 .ret [] [] 11 [(2, .s 0 0), (3, .i .i64 (.ofNat 10))] [] = true := by kernel_rfl
def hyUr_p3 : LK := [(.bytes [], .x 14), (.len (.x 0), .x 15), (.bin .lss (.x 1) (.x 15), .b true), (.idx (.x 0) (.x 1), .x 16), (.bin .neq (.x 16) (.i .u8 (.ofNat 37)), .b false), (.bin .add (.x 1) (.i .i64 (.ofNat 2)), .x 17), (.bin .geq (.x 17) (.x 15), .b false), (.bin .add (.x 1) (.i .i64 (.ofNat 1)), .x 18), (.idx (.x 0) (.x 18), .x 19), (.call 57 [.x 19], .x 20), (.idx (.x 0) (.x 17), .x 21), (.call 57 [.x 21], .x 22), (.bin .lss (.x 20) (.i .i64 (.ofNat 0)), .b false), (.bin .lss (.x 22) (.i .i64 (.ofNat 0)), .b true)]
theorem runUr_p3 : RNUr_0 hyUr_p3 .ret [] [] 11 [(2, .s 0 0), (3, .i .i64 (.ofNat 10))] [] = true := by kernel_rfl
def hyUr_p4 : LK := [(.bytes [], .x 23), (.len (.x 0), .x 24), (.bin .lss (.x 1) (.x 24), .b true), (.idx (.x 0) (.x 1), .x 25), (.bin .neq (.x 25) (.i .u8 (.ofNat 37)), .b false), (.bin .add (.x 1) (.i .i64 (.ofNat 2)), .x 26), (.bin .geq (.x 26) (.x 24), .b false), (.bin .add (.x 1) (.i .i64 (.ofNat 1)), .x 27), (.idx (.x 0) (.x 27), .x 28), (.call 57 [.x 28], .x 29), (.idx (.x 0) (.x 26), .x 30), (.call 57 [.x 30], .x 31), (.bin .lss (.x 29) (.i .i64 (.ofNat 0)), .b true)]
theorem runUr_p4 : RNUr_0 hyUr_p4 .ret [] [] 11 [(2, .s 0 0), (3, .i .i64 (.ofNat 10))] [] = true := by kernel_rfl
def hyUr_p5 : LK := [(.bytes [], .x 32), (.len (.x 0), .x 33), (.bin .lss (.x 1) (.x 33), .b true), (.idx (.x 0) (.x 1), .x 34), (.bin .neq (.x 34) (.i .u8 (.ofNat 37)), .b false), (.bin .add (.x 1) (.i .i64 (.ofNat 2)), .x 35), (.bin .geq (.x 35) (.x 33), .b false), (.bin .add (.x 1) (.i .i64 (.ofNat 1)), .x 36), (.idx (.x 0) (.x 36), .x 37), (.call 57 [.x 37], .x 38), (.idx (.x 0) (.x 35), .x 39), (.call 57 [.x 39], .x 40), (.bin .lss (.x 38) (.i .i64 (.ofNat 0)), .b false), (.bin .lss (.x 40) (.i .i64 (.ofNat 0)), .b false), (.bin .add (.x 38) (.x 40), .x 41), (.bin .eql (.x 41) (.i .i64 (.ofNat 0)), .b true)]
theorem runUr_p5 : RNUr_0 hyUr_p5 .ret [] [] 11 [(2, .s 0 0), (3, .i .i64 (.ofNat 10))] [] = true := by kernel_rfl
def hyUr_p6 : LK := [(.bytes [], .x 42), (.len (.x 0), .x 43), (.bin .lss (.x 1) (.x 43), .b true), (.idx (.x 0) (.x 1), .x 44), (.bin .neq (.x 44) (.i .u8 (.ofNat 37)), .b false), (.bin .add (.x 1) (.i .i64 (.ofNat 2)), .x 45), (.bin .geq (.x 45) (.x 43), .b false), (.bin .add (.x 1) (.i .i64 (.ofNat 1)), .x 46), (.idx (.x 0) (.x 46), .x 47), (.call 57 [.x 47], .x 48), (.idx (.x 0) (.x 45), .x 49), (.call 57 [.x 49], .x 50), (.bin .lss (.x 48) (.i .i64 (.ofNat 0)), .b false), (.bin .lss (.x 50) (.i .i64 (.ofNat 0)), .b false), (.bin .add (.x 48) (.x 50), .x 51), (.bin .eql (.x 51) (.i .i64 (.ofNat 0)), .b false), (.bin .mul (.i .i64 (.ofNat 16)) (.x 48), .x 52), (.bin .add (.x 52) (.x 50), .x 53), (.conv 5 (.x 53), .x 54), (.app (.x 42) [.x 54], .x 55), (.byt (.x 55) (.i .i64 (.ofNat 0)), .x 56), (.fit (.x 55), .b true), (.bin .add (.x 45) (.i .i64 (.ofNat 1)), .x 57)]
theorem runUr_p6 : RNUr_0 hyUr_p6 .normal [(0, .x 0), (1, .x 57), (2, .x 55)] [(7, 9)] 8 epUr_1 hpUr_1 = true := by kernel_rfl
theorem nxUr_p6 (s T : LB) (c0 : s.length ≤ 400) (i : Int) (b : LB) (X : Nat → Value) (hI : InvUr s T (0, i, b)) (h0 : i < (s.length : Int)) (h1 : bt s (Int.toNat (i)) = 37) (h2 : ¬ ((s.length : Int) ≤ i + 2)) (h3 : ¬ (vNib (bt s (Int.toNat (i + 1))) < 0)) (h4 : ¬ (vNib (bt s (Int.toNat (i + 2))) < 0)) (h5 : ¬ ((vNib (bt s (Int.toNat (i + 1)))) + (vNib (bt s (Int.toNat (i + 2)))) = 0)) : RHUr s T E' x' e' h' (0, i, b) X := by
  obtain ⟨i0, i1, i2, i3, i4, i5, it⟩ := unIUr s T 0 i b hI
  have := bt_lo s (Int.toNat (i)); have := bt_hi s (Int.toNat (i))
  have := bt_lo s (Int.toNat (i + 1)); have := bt_hi s (Int.toNat (i + 1))
  have := rNib (c := bt s (Int.toNat (i + 1))) (by omega) (by omega)
  have := bt_lo s (Int.toNat (i + 2)); have := bt_hi s (Int.toNat (i + 2))
  have := rNib (c := bt s (Int.toNat (i + 2))) (by omega) (by omega)
  refine stUr_0 s T i b (h := hyUr_p6) (1, i + 3, [u8 (((vNib (bt s (Int.toNat (i + 1)))) * 16 + (vNib (bt s (Int.toNat (i + 2))))) % 256)]) ?_ (mkIUr s T 1 (i + 3) ([u8 (((vNib (bt s (Int.toNat (i + 1)))) * 16 + (vNib (bt s (Int.toNat (i + 2))))) % 256)]) ⟨by omega, by omega, by rw [← i2, i3 rfl]; exact unO_cons0 ((by have D1 := nibD (c := bt s (Int.toNat (i + 1))) (bt_lo _ _) (bt_hi _ _); have Z1 := dgt0 (c := bt s (Int.toNat (i + 1))) (bt_lo _ _) (bt_hi _ _); have D2 := nibD (c := bt s (Int.toNat (i + 2))) (bt_lo _ _) (bt_hi _ _); have Z2 := dgt0 (c := bt s (Int.toNat (i + 2))) (bt_lo _ _) (bt_hi _ _); exact ur_esc (by omega) (by omega) (by omega) ⟨by omega, by omega, by omega⟩ (by omega) (by omega))), fun h => by omega, fun _ => by simp, by simp only [List.length_append, List.length_cons, List.length_nil]; omega, by omega⟩) (by show s.length - (i + 3).toNat < s.length - i.toNat; omega) (thXv (v := St' s) rfl rfl (thXi (b := ((i + 3))) rfl rfl (by omega) (thXv (v := St' ([u8 (((vNib (bt s (Int.toNat (i + 1)))) * 16 + (vNib (bt s (Int.toNat (i + 2))))) % 256)])) rfl rfl (thNil)))) runUr_p6
  unfold hyUr_p6
  exact hc (kBytesB (bs := ([] : LB)) .nil (denX rfl)) <|
   hc (lnV rfl rfl (by omega)) <|
   hc (ltT rfl rfl (by omega)) <|
   hc (ixV rfl rfl rfl (by omega)) <|
   hc (necF rfl (by omega)) <|
   hc (adC rfl rfl (by omega)) <|
   hc (geF rfl rfl (by omega)) <|
   hc (adC rfl rfl (by omega)) <|
   hc (ixV rfl rfl rfl (by omega)) <|
   hc (hokNib (isX rfl) (by omega) (by omega) (denX rfl)) <|
   hc (ixV rfl rfl rfl (by omega)) <|
   hc (hokNib (isX rfl) (by omega) (by omega) (denX rfl)) <|
   hc (ltcF rfl (by omega)) <|
   hc (ltcF rfl (by omega)) <|
   hc (adX rfl rfl rfl (by omega)) <|
   hc (eqcF rfl (by omega)) <|
   hc (kMul (isZ (m := 16) rfl) (isX rfl) (denX rfl) (by omega) (fI64 (by omega) (by omega))) <|
   hc (adX rfl rfl rfl (by omega)) <|
   hc (kConv8 (isX rfl) tu5 (denX rfl) rfl) <|
   hc (kApp (bs := [u8 (((vNib (bt s (Int.toNat (i + 1)))) * 16 + (vNib (bt s (Int.toNat (i + 2))))) % 256)]) (isX rfl) (.cons (isB8 (isX rfl) (by omega) (by omega)) .nil) (denX rfl) (by first | rfl | (simp; done))) <|
   hc (kByt (i := 0) (isX rfl) (isZ (m := 0) rfl) (denX rfl) rfl (by simp) (bt_at rfl (by omega) (by omega))) <|
   hc (kFit (isX rfl) (by first | omega | (simp <;> omega))) <|
   hc (adC rfl rfl (by omega)) <|
   hnil
def hyUr_p7 : LK := [(.bytes [], .x 3), (.len (.x 0), .x 4), (.bin .lss (.x 1) (.x 4), .b true), (.idx (.x 0) (.x 1), .x 5), (.bin .neq (.x 5) (.i .u8 (.ofNat 37)), .b true), (.app (.x 2) [.x 5], .x 6), (.fit (.x 6), .b true), (.bin .add (.x 1) (.i .i64 (.ofNat 1)), .x 7)]
theorem runUr_p7 : RNUr_1 hyUr_p7 .normal [(0, .x 0), (1, .x 7), (2, .x 6)] [(7, 9)] 8 epUr_1 hpUr_1 = true := by kernel_rfl
theorem nxUr_p7 (s T : LB) (c0 : s.length ≤ 400) (i : Int) (b : LB) (X : Nat → Value) (hI : InvUr s T (1, i, b)) (h0 : i < (s.length : Int)) (h1 : ¬ (bt s (Int.toNat (i)) = 37)) : RHUr s T E' x' e' h' (1, i, b) X := by
  obtain ⟨i0, i1, i2, i3, i4, i5, it⟩ := unIUr s T 1 i b hI
  have := bt_lo s (Int.toNat (i)); have := bt_hi s (Int.toNat (i))
  refine stUr_1 s T i b (h := hyUr_p7) (1, i + 1, (b ++ [u8 (bt s (Int.toNat (i)))])) ?_ (mkIUr s T 1 (i + 1) (b ++ [u8 (bt s (Int.toNat (i)))]) ⟨by omega, by omega, by rw [← i2]; exact unO_cons (ur_plain (by omega) (by omega) (by omega) (by omega)), fun h => by omega, fun _ => by simp, by simp only [List.length_append, List.length_cons, List.length_nil]; omega, by omega⟩) (by show s.length - (i + 1).toNat < s.length - i.toNat; omega) (thXv (v := St' s) rfl rfl (thXi (b := ((i + 1))) rfl rfl (by omega) (thXv (v := St' (b ++ [u8 (bt s (Int.toNat (i)))])) rfl rfl (thNil)))) runUr_p7
  unfold hyUr_p7
  exact hc (kBytesB (bs := ([] : LB)) .nil (denX rfl)) <|
   hc (lnV rfl rfl (by omega)) <|
   hc (ltT rfl rfl (by omega)) <|
   hc (ixV rfl rfl rfl (by omega)) <|
   hc (necT rfl (by omega)) <|
   hc (kApp (bs := [u8 (bt s (Int.toNat (i)))]) (isX rfl) (.cons (isB8 (isX rfl) (by omega) (by omega)) .nil) (denX rfl) (by first | rfl | (simp; done))) <|
   hc (kFit (isX rfl) (by first | omega | (simp <;> omega))) <|
   hc (adC rfl rfl (by omega)) <|
   hnil
def hyUr_p8 : LK := [(.bytes [], .x 8), (.len (.x 0), .x 9), (.bin .lss (.x 1) (.x 9), .b false)]
theorem runUr_p8 : RNUr_1 hyUr_p8 (.exit 0) [(0, .x 2)] [(7, 7)] 11 [(2, .s 0 0), (3, .i .i64 (.ofNat 0)), (4, .sy 7)] [(7, .t 0 5)] = true := by kernel_rfl
def hyUr_p9 : LK := [(.bytes [], .x 10), (.len (.x 0), .x 11), (.bin .lss (.x 1) (.x 11), .b true), (.idx (.x 0) (.x 1), .x 12), (.bin .neq (.x 12) (.i .u8 (.ofNat 37)), .b false), (.bin .add (.x 1) (.i .i64 (.ofNat 2)), .x 13), (.bin .geq (.x 13) (.x 11), .b true)]
theorem runUr_p9 : RNUr_1 hyUr_p9 .ret [] [] 11 [(2, .s 0 0), (3, .i .i64 (.ofNat 10))] [] = true := by kernel_rfl
def hyUr_p10 : LK := [(.bytes [], .x 14), (.len (.x 0), .x 15), (.bin .lss (.x 1) (.x 15), .b true), (.idx (.x 0) (.x 1), .x 16), (.bin .neq (.x 16) (.i .u8 (.ofNat 37)), .b false), (.bin .add (.x 1) (.i .i64 (.ofNat 2)), .x 17), (.bin .geq (.x 17) (.x 15), .b false), (.bin .add (.x 1) (.i .i64 (.ofNat 1)), .x 18), (.idx (.x 0) (.x 18), .x 19), (.call 57 [.x 19], .x 20), (.idx (.x 0) (.x 17), .x 21), (.call 57 [.x 21], .x 22), (.bin .lss (.x 20) (.i .i64 (.ofNat 0)), .b false), (.bin .lss (.x 22) (.i .i64 (.ofNat 0)), .b true)]
theorem runUr_p10 : RNUr_1 hyUr_p10 .ret [] [] 11 [(2, .s 0 0), (3, .i .i64 (.ofNat 10))] [] = true := by kernel_rfl
def hyUr_p11 : LK := [(.bytes [], .x 23), (.len (.x 0), .x 24), (.bin .lss (.x 1) (.x 24), .b true), (.idx (.x 0) (.x 1), .x 25), (.bin .neq (.x 25) (.i .u8 (.ofNat 37)), .b false), (.bin .add (.x 1) (.i .i64 (.ofNat 2)), .x 26), (.bin .geq (.x 26) (.x 24), .b false), (.bin .add (.x 1) (.i .i64 (.ofNat 1)), .x 27), (.idx (.x 0) (.x 27), .x 28), (.call 57 [.x 28], .x 29), (.idx (.x 0) (.x 26), .x 30), (.call 57 [.x 30], .x 31), (.bin .lss (.x 29) (.i .i64 (.ofNat 0)), .b true)]
theorem runUr_p11 : RNUr_1 hyUr_p11 .ret [] [] 11 [(2, .s 0 0), (3, .i .i64 (.ofNat 10))] [] = true := by kernel_rfl
def hyUr_p12 : LK := [(.bytes [], .x 32), (.len (.x 0), .x 33), (.bin .lss (.x 1) (.x 33), .b true), (.idx (.x 0) (.x 1), .x 34), (.bin .neq (.x 34) (.i .u8 (.ofNat 37)), .b false), (.bin .add (.x 1) (.i .i64 (.ofNat 2)), .x 35), (.bin .geq (.x 35) (.x 33), .b false), (.bin .add (.x 1) (.i .i64 (.ofNat 1)), .x 36), (.idx (.x 0) (.x 36), .x 37), (.call 57 [.x 37], .x 38), (.idx (.x 0) (.x 35), .x 39), (.call 57 [.x 39], .x 40), (.bin .lss (.x 38) (.i .i64 (.ofNat 0)), .b false), (.bin .lss (.x 40) (.i .i64 (.ofNat 0)), .b false), (.bin .add (.x 38) (.x 40), .x 41), (.bin .eql (.x 41) (.i .i64 (.ofNat 0)), .b true)]
theorem runUr_p12 : RNUr_1 hyUr_p12 .ret [] [] 11 [(2, .s 0 0), (3, .i .i64 (.ofNat 10))] [] = true := by kernel_rfl
def hyUr_p13 : LK := [(.bytes [], .x 42), (.len (.x 0), .x 43), (.bin .lss (.x 1) (.x 43), .b true), (.idx (.x 0) (.x 1), .x 44), (.bin .neq (.x 44) (.i .u8 (.ofNat 37)), .b false), (.bin .add (.x 1) (.i .i64 (.ofNat 2)), .x 45), (.bin .geq (.x 45) (.x 43), .b false), (.bin .add (.x 1) (.i .i64 (.ofNat 1)), .x 46), (.idx (.x 0) (.x 46), .x 47), (.call 57 [.x 47], .x 48), (.idx (.x 0) (.x 45), .x 49), (.call 57 [.x 49], .x 50), (.bin .lss (.x 48) (.i .i64 (.ofNat 0)), .b false), (.bin .lss (.x 50) (.i .i64 (.ofNat 0)), .b false), (.bin .add (.x 48) (.x 50), .x 51), (.bin .eql (.x 51) (.i .i64 (.ofNat 0)), .b false), (.bin .mul (.i .i64 (.ofNat 16)) (.x 48), .x 52), (.bin .add (.x 52) (.x 50), .x 53), (.conv 5 (.x 53), .x 54), (.app (.x 2) [.x 54], .x 55), (.fit (.x 55), .b true), (.bin .add (.x 45) (.i .i64 (.ofNat 1)), .x 56)]
theorem runUr_p13 : RNUr_1 hyUr_p13 .normal [(0, .x 0), (1, .x 56), (2, .x 55)] [(7, 9)] 8 epUr_1 hpUr_1 = true := by kernel_rfl
theorem nxUr_p13 (s T : LB) (c0 : s.length ≤ 400) (i : Int) (b : LB) (X : Nat → Value) (hI : InvUr s T (1, i, b)) (h0 : i < (s.length : Int)) (h1 : bt s (Int.toNat (i)) = 37) (h2 : ¬ ((s.length : Int) ≤ i + 2)) (h3 : ¬ (vNib (bt s (Int.toNat (i + 1))) < 0)) (h4 : ¬ (vNib (bt s (Int.toNat (i + 2))) < 0)) (h5 : ¬ ((vNib (bt s (Int.toNat (i + 1)))) + (vNib (bt s (Int.toNat (i + 2)))) = 0)) : RHUr s T E' x' e' h' (1, i, b) X := by
  obtain ⟨i0, i1, i2, i3, i4, i5, it⟩ := unIUr s T 1 i b hI
  have := bt_lo s (Int.toNat (i)); have := bt_hi s (Int.toNat (i))
  have := bt_lo s (Int.toNat (i + 1)); have := bt_hi s (Int.toNat (i + 1))
  have := rNib (c := bt s (Int.toNat (i + 1))) (by omega) (by omega)
  have := bt_lo s (Int.toNat (i + 2)); have := bt_hi s (Int.toNat (i + 2))
  have := rNib (c := bt s (Int.toNat (i + 2))) (by omega) (by omega)
  refine stUr_1 s T i b (h := hyUr_p13) (1, i + 3, (b ++ [u8 (((vNib (bt s (Int.toNat (i + 1)))) * 16 + (vNib (bt s (Int.toNat (i + 2))))) % 256)])) ?_ (mkIUr s T 1 (i + 3) (b ++ [u8 (((vNib (bt s (Int.toNat (i + 1)))) * 16 + (vNib (bt s (Int.toNat (i + 2))))) % 256)]) ⟨by omega, by omega, by rw [← i2]; exact unO_cons ((by have D1 := nibD (c := bt s (Int.toNat (i + 1))) (bt_lo _ _) (bt_hi _ _); have Z1 := dgt0 (c := bt s (Int.toNat (i + 1))) (bt_lo _ _) (bt_hi _ _); have D2 := nibD (c := bt s (Int.toNat (i + 2))) (bt_lo _ _) (bt_hi _ _); have Z2 := dgt0 (c := bt s (Int.toNat (i + 2))) (bt_lo _ _) (bt_hi _ _); exact ur_esc (by omega) (by omega) (by omega) ⟨by omega, by omega, by omega⟩ (by omega) (by omega))), fun h => by omega, fun _ => by simp, by simp only [List.length_append, List.length_cons, List.length_nil]; omega, by omega⟩) (by show s.length - (i + 3).toNat < s.length - i.toNat; omega) (thXv (v := St' s) rfl rfl (thXi (b := ((i + 3))) rfl rfl (by omega) (thXv (v := St' (b ++ [u8 (((vNib (bt s (Int.toNat (i + 1)))) * 16 + (vNib (bt s (Int.toNat (i + 2))))) % 256)])) rfl rfl (thNil)))) runUr_p13
  unfold hyUr_p13
  exact hc (kBytesB (bs := ([] : LB)) .nil (denX rfl)) <|
   hc (lnV rfl rfl (by omega)) <|
   hc (ltT rfl rfl (by omega)) <|
   hc (ixV rfl rfl rfl (by omega)) <|
   hc (necF rfl (by omega)) <|
   hc (adC rfl rfl (by omega)) <|
   hc (geF rfl rfl (by omega)) <|
   hc (adC rfl rfl (by omega)) <|
   hc (ixV rfl rfl rfl (by omega)) <|
   hc (hokNib (isX rfl) (by omega) (by omega) (denX rfl)) <|
   hc (ixV rfl rfl rfl (by omega)) <|
   hc (hokNib (isX rfl) (by omega) (by omega) (denX rfl)) <|
   hc (ltcF rfl (by omega)) <|
   hc (ltcF rfl (by omega)) <|
   hc (adX rfl rfl rfl (by omega)) <|
   hc (eqcF rfl (by omega)) <|
   hc (kMul (isZ (m := 16) rfl) (isX rfl) (denX rfl) (by omega) (fI64 (by omega) (by omega))) <|
   hc (adX rfl rfl rfl (by omega)) <|
   hc (kConv8 (isX rfl) tu5 (denX rfl) rfl) <|
   hc (kApp (bs := [u8 (((vNib (bt s (Int.toNat (i + 1)))) * 16 + (vNib (bt s (Int.toNat (i + 2))))) % 256)]) (isX rfl) (.cons (isB8 (isX rfl) (by omega) (by omega)) .nil) (denX rfl) (by first | rfl | (simp; done))) <|
   hc (kFit (isX rfl) (by first | omega | (simp <;> omega))) <|
   hc (adC rfl rfl (by omega)) <|
   hnil
def nuEUr_0 (s T : LB) : List Value := []
def roEUr_0 (s T : LB) : List Value := []
noncomputable def EUr_0 (s T : LB) : Cx := cx (nuX (nuEUr_0 s T) (rX (roEUr_0 s T) (fun _ => .bool true))) (nuX_one (nuL_one (l := nuEUr_0 s T) rfl)) 1 laidE laidE_stab
theorem roundsUr_0 (s T : LB) (c0 : s.length ≤ 400) (x0 : unS s = some []) (st : Nat × Int × LB) (X : Nat → Value) (hI : InvUr s T st) : RHUr s T (EUr_0 s T) (.exit 0) [(2, .s 0 0), (3, .i .i64 (.ofNat 0)), (4, .nils)] [] st X := by
  obtain ⟨tag, i, b⟩ := st
  have hI0 := hI
  obtain ⟨i0, i1, i2, i3, i4, i5, it⟩ := unIUr s T tag i b hI
  rcases (show tag = 0 ∨ tag = 1 from by omega) with rfl | rfl
  · skip
    by_cases h0 : i < (s.length : Int)
    · by_cases h1 : bt s (Int.toNat (i)) = 37
      · by_cases h2 : (s.length : Int) ≤ i + 2
        · exfalso; rw [unO_none (ur_short (by omega) (by omega) (by omega) (by omega)), x0] at i2; cases i2
        · by_cases h3 : vNib (bt s (Int.toNat (i + 1))) < 0
          · exfalso; rw [unO_none (ur_bad (by omega) (by omega) (by omega) (fun h => by have D1 := nibD (c := bt s (Int.toNat (i + 1))) (bt_lo _ _) (bt_hi _ _); have Z1 := dgt0 (c := bt s (Int.toNat (i + 1))) (bt_lo _ _) (bt_hi _ _); have D2 := nibD (c := bt s (Int.toNat (i + 2))) (bt_lo _ _) (bt_hi _ _); have Z2 := dgt0 (c := bt s (Int.toNat (i + 2))) (bt_lo _ _) (bt_hi _ _); have := h.1; have := h.2.1; have := h.2.2; omega)), x0] at i2; cases i2
          · by_cases h4 : vNib (bt s (Int.toNat (i + 2))) < 0
            · exfalso; rw [unO_none (ur_bad (by omega) (by omega) (by omega) (fun h => by have D1 := nibD (c := bt s (Int.toNat (i + 1))) (bt_lo _ _) (bt_hi _ _); have Z1 := dgt0 (c := bt s (Int.toNat (i + 1))) (bt_lo _ _) (bt_hi _ _); have D2 := nibD (c := bt s (Int.toNat (i + 2))) (bt_lo _ _) (bt_hi _ _); have Z2 := dgt0 (c := bt s (Int.toNat (i + 2))) (bt_lo _ _) (bt_hi _ _); have := h.1; have := h.2.1; have := h.2.2; omega)), x0] at i2; cases i2
            · by_cases h5 : (vNib (bt s (Int.toNat (i + 1)))) + (vNib (bt s (Int.toNat (i + 2)))) = 0
              · exfalso; rw [unO_none (ur_bad (by omega) (by omega) (by omega) (fun h => by have D1 := nibD (c := bt s (Int.toNat (i + 1))) (bt_lo _ _) (bt_hi _ _); have Z1 := dgt0 (c := bt s (Int.toNat (i + 1))) (bt_lo _ _) (bt_hi _ _); have D2 := nibD (c := bt s (Int.toNat (i + 2))) (bt_lo _ _) (bt_hi _ _); have Z2 := dgt0 (c := bt s (Int.toNat (i + 2))) (bt_lo _ _) (bt_hi _ _); have := h.1; have := h.2.1; have := h.2.2; omega)), x0] at i2; cases i2
              · exact nxUr_p6 s T c0 i b X hI0 h0 h1 h2 h3 h4 h5
      · exact nxUr_p0 s T c0 i b X hI0 h0 h1
    · skip
      refine lvUr_0 s T i b (h := hyUr_p1) rfl ?_ (thNil) runUr_p1
      unfold hyUr_p1
      exact hc (kBytesB (bs := ([] : LB)) .nil (denX rfl)) <|
       hc (lnV rfl rfl (by omega)) <|
       hc (ltF rfl rfl (by omega)) <|
       hnil
  · skip
    by_cases h0 : i < (s.length : Int)
    · by_cases h1 : bt s (Int.toNat (i)) = 37
      · by_cases h2 : (s.length : Int) ≤ i + 2
        · exfalso; rw [unO_none (ur_short (by omega) (by omega) (by omega) (by omega)), x0] at i2; cases i2
        · by_cases h3 : vNib (bt s (Int.toNat (i + 1))) < 0
          · exfalso; rw [unO_none (ur_bad (by omega) (by omega) (by omega) (fun h => by have D1 := nibD (c := bt s (Int.toNat (i + 1))) (bt_lo _ _) (bt_hi _ _); have Z1 := dgt0 (c := bt s (Int.toNat (i + 1))) (bt_lo _ _) (bt_hi _ _); have D2 := nibD (c := bt s (Int.toNat (i + 2))) (bt_lo _ _) (bt_hi _ _); have Z2 := dgt0 (c := bt s (Int.toNat (i + 2))) (bt_lo _ _) (bt_hi _ _); have := h.1; have := h.2.1; have := h.2.2; omega)), x0] at i2; cases i2
          · by_cases h4 : vNib (bt s (Int.toNat (i + 2))) < 0
            · exfalso; rw [unO_none (ur_bad (by omega) (by omega) (by omega) (fun h => by have D1 := nibD (c := bt s (Int.toNat (i + 1))) (bt_lo _ _) (bt_hi _ _); have Z1 := dgt0 (c := bt s (Int.toNat (i + 1))) (bt_lo _ _) (bt_hi _ _); have D2 := nibD (c := bt s (Int.toNat (i + 2))) (bt_lo _ _) (bt_hi _ _); have Z2 := dgt0 (c := bt s (Int.toNat (i + 2))) (bt_lo _ _) (bt_hi _ _); have := h.1; have := h.2.1; have := h.2.2; omega)), x0] at i2; cases i2
            · by_cases h5 : (vNib (bt s (Int.toNat (i + 1)))) + (vNib (bt s (Int.toNat (i + 2)))) = 0
              · exfalso; rw [unO_none (ur_bad (by omega) (by omega) (by omega) (fun h => by have D1 := nibD (c := bt s (Int.toNat (i + 1))) (bt_lo _ _) (bt_hi _ _); have Z1 := dgt0 (c := bt s (Int.toNat (i + 1))) (bt_lo _ _) (bt_hi _ _); have D2 := nibD (c := bt s (Int.toNat (i + 2))) (bt_lo _ _) (bt_hi _ _); have Z2 := dgt0 (c := bt s (Int.toNat (i + 2))) (bt_lo _ _) (bt_hi _ _); have := h.1; have := h.2.1; have := h.2.2; omega)), x0] at i2; cases i2
              · exact nxUr_p13 s T c0 i b X hI0 h0 h1 h2 h3 h4 h5
      · exact nxUr_p7 s T c0 i b X hI0 h0 h1
    · exfalso; rw [unO_nil (by rw [List.length_drop]; omega), x0] at i2; injection i2 with h; have := i4 rfl; rw [h] at this; simp at this
theorem lfOkUr_0 {l : LF} {h : LH} (s T : LB) (c0 : s.length ≤ 400) (x0 : unS s = some []) (st : Nat × Int × LB) (hI : InvUr s T st) (hl : l.hp = some h) (hs : lfSame l h 63 keepUr (.exit 0) 7 7 11 = true) {th0 : LA} {sg0 : List (Nat × Nat)} (hth0 : ∀ X, ThOk (cx nu one 1 laidE laidE_stab) (DUr s T st X) th0) (h0 : startOk l h 63 7 8 th0 sg0 (epUr st) (hpUr st) = true) {thx : LA} (hthx : ThOk (EUr_0 s T) (cx nu one 1 laidE laidE_stab) thx) (hx : exitOk l h 63 7 11 thx [(2, .s 0 0), (3, .i .i64 (.ofNat 0)), (4, .nils)] [] = true) : LfOk (cx nu one 1 laidE laidE_stab) bodyUr l :=
  lfOkX (E := EUr_0 s T) (InvUr s T) (muUr s T) (DUr s T) (fun _ _ => rfl) (fun _ _ => rfl) (fun _ _ => rfl) (fun st X t ht => nuX_keep.trans (rX_keep ((by decide : ∀ t, t ∈ keepUr → t < 1000000) t ht))) rfl rfl rfl hl hs ebUr rfl rfl st hI hth0 h0 hthx hx (roundsUr_0 s T c0 x0)
def nuEUr_1 (s T : LB) : List Value := [St' T]
def roEUr_1 (s T : LB) : List Value := []
noncomputable def EUr_1 (s T : LB) : Cx := cx (nuX (nuEUr_1 s T) (rX (roEUr_1 s T) (fun _ => .bool true))) (nuX_one (nuL_one (l := nuEUr_1 s T) rfl)) 1 laidE laidE_stab
theorem roundsUr_1 (s T : LB) (c0 : s.length ≤ 400) (x0 : unS s = some T) (x1 : 1 ≤ T.length) (st : Nat × Int × LB) (X : Nat → Value) (hI : InvUr s T st) : RHUr s T (EUr_1 s T) (.exit 0) [(2, .s 0 0), (3, .i .i64 (.ofNat 0)), (4, .sy 7)] [(7, .t 0 5)] st X := by
  obtain ⟨tag, i, b⟩ := st
  have hI0 := hI
  obtain ⟨i0, i1, i2, i3, i4, i5, it⟩ := unIUr s T tag i b hI
  rcases (show tag = 0 ∨ tag = 1 from by omega) with rfl | rfl
  · skip
    by_cases h0 : i < (s.length : Int)
    · by_cases h1 : bt s (Int.toNat (i)) = 37
      · by_cases h2 : (s.length : Int) ≤ i + 2
        · exfalso; rw [unO_none (ur_short (by omega) (by omega) (by omega) (by omega)), x0] at i2; cases i2
        · by_cases h3 : vNib (bt s (Int.toNat (i + 1))) < 0
          · exfalso; rw [unO_none (ur_bad (by omega) (by omega) (by omega) (fun h => by have D1 := nibD (c := bt s (Int.toNat (i + 1))) (bt_lo _ _) (bt_hi _ _); have Z1 := dgt0 (c := bt s (Int.toNat (i + 1))) (bt_lo _ _) (bt_hi _ _); have D2 := nibD (c := bt s (Int.toNat (i + 2))) (bt_lo _ _) (bt_hi _ _); have Z2 := dgt0 (c := bt s (Int.toNat (i + 2))) (bt_lo _ _) (bt_hi _ _); have := h.1; have := h.2.1; have := h.2.2; omega)), x0] at i2; cases i2
          · by_cases h4 : vNib (bt s (Int.toNat (i + 2))) < 0
            · exfalso; rw [unO_none (ur_bad (by omega) (by omega) (by omega) (fun h => by have D1 := nibD (c := bt s (Int.toNat (i + 1))) (bt_lo _ _) (bt_hi _ _); have Z1 := dgt0 (c := bt s (Int.toNat (i + 1))) (bt_lo _ _) (bt_hi _ _); have D2 := nibD (c := bt s (Int.toNat (i + 2))) (bt_lo _ _) (bt_hi _ _); have Z2 := dgt0 (c := bt s (Int.toNat (i + 2))) (bt_lo _ _) (bt_hi _ _); have := h.1; have := h.2.1; have := h.2.2; omega)), x0] at i2; cases i2
            · by_cases h5 : (vNib (bt s (Int.toNat (i + 1)))) + (vNib (bt s (Int.toNat (i + 2)))) = 0
              · exfalso; rw [unO_none (ur_bad (by omega) (by omega) (by omega) (fun h => by have D1 := nibD (c := bt s (Int.toNat (i + 1))) (bt_lo _ _) (bt_hi _ _); have Z1 := dgt0 (c := bt s (Int.toNat (i + 1))) (bt_lo _ _) (bt_hi _ _); have D2 := nibD (c := bt s (Int.toNat (i + 2))) (bt_lo _ _) (bt_hi _ _); have Z2 := dgt0 (c := bt s (Int.toNat (i + 2))) (bt_lo _ _) (bt_hi _ _); have := h.1; have := h.2.1; have := h.2.2; omega)), x0] at i2; cases i2
              · exact nxUr_p6 s T c0 i b X hI0 h0 h1 h2 h3 h4 h5
      · exact nxUr_p0 s T c0 i b X hI0 h0 h1
    · exfalso; rw [unO_nil (by rw [List.length_drop]; omega), i3 rfl, x0] at i2; injection i2 with h; rw [← h] at x1; simp at x1
  · skip
    by_cases h0 : i < (s.length : Int)
    · by_cases h1 : bt s (Int.toNat (i)) = 37
      · by_cases h2 : (s.length : Int) ≤ i + 2
        · exfalso; rw [unO_none (ur_short (by omega) (by omega) (by omega) (by omega)), x0] at i2; cases i2
        · by_cases h3 : vNib (bt s (Int.toNat (i + 1))) < 0
          · exfalso; rw [unO_none (ur_bad (by omega) (by omega) (by omega) (fun h => by have D1 := nibD (c := bt s (Int.toNat (i + 1))) (bt_lo _ _) (bt_hi _ _); have Z1 := dgt0 (c := bt s (Int.toNat (i + 1))) (bt_lo _ _) (bt_hi _ _); have D2 := nibD (c := bt s (Int.toNat (i + 2))) (bt_lo _ _) (bt_hi _ _); have Z2 := dgt0 (c := bt s (Int.toNat (i + 2))) (bt_lo _ _) (bt_hi _ _); have := h.1; have := h.2.1; have := h.2.2; omega)), x0] at i2; cases i2
          · by_cases h4 : vNib (bt s (Int.toNat (i + 2))) < 0
            · exfalso; rw [unO_none (ur_bad (by omega) (by omega) (by omega) (fun h => by have D1 := nibD (c := bt s (Int.toNat (i + 1))) (bt_lo _ _) (bt_hi _ _); have Z1 := dgt0 (c := bt s (Int.toNat (i + 1))) (bt_lo _ _) (bt_hi _ _); have D2 := nibD (c := bt s (Int.toNat (i + 2))) (bt_lo _ _) (bt_hi _ _); have Z2 := dgt0 (c := bt s (Int.toNat (i + 2))) (bt_lo _ _) (bt_hi _ _); have := h.1; have := h.2.1; have := h.2.2; omega)), x0] at i2; cases i2
            · by_cases h5 : (vNib (bt s (Int.toNat (i + 1)))) + (vNib (bt s (Int.toNat (i + 2)))) = 0
              · exfalso; rw [unO_none (ur_bad (by omega) (by omega) (by omega) (fun h => by have D1 := nibD (c := bt s (Int.toNat (i + 1))) (bt_lo _ _) (bt_hi _ _); have Z1 := dgt0 (c := bt s (Int.toNat (i + 1))) (bt_lo _ _) (bt_hi _ _); have D2 := nibD (c := bt s (Int.toNat (i + 2))) (bt_lo _ _) (bt_hi _ _); have Z2 := dgt0 (c := bt s (Int.toNat (i + 2))) (bt_lo _ _) (bt_hi _ _); have := h.1; have := h.2.1; have := h.2.2; omega)), x0] at i2; cases i2
              · exact nxUr_p13 s T c0 i b X hI0 h0 h1 h2 h3 h4 h5
      · exact nxUr_p7 s T c0 i b X hI0 h0 h1
    · skip
      refine lvUr_1 s T i b (h := hyUr_p8) rfl ?_ (thXe (v := St' b) (u := St' T) rfl rfl (congrArg (fun l => St' l) (by have h := i2; rw [unO_nil (by rw [List.length_drop]; omega), x0] at h; injection h)) (thNil)) runUr_p8
      unfold hyUr_p8
      exact hc (kBytesB (bs := ([] : LB)) .nil (denX rfl)) <|
       hc (lnV rfl rfl (by omega)) <|
       hc (ltF rfl rfl (by omega)) <|
       hnil
theorem lfOkUr_1 {l : LF} {h : LH} (s T : LB) (c0 : s.length ≤ 400) (x0 : unS s = some T) (x1 : 1 ≤ T.length) (st : Nat × Int × LB) (hI : InvUr s T st) (hl : l.hp = some h) (hs : lfSame l h 63 keepUr (.exit 0) 7 7 11 = true) {th0 : LA} {sg0 : List (Nat × Nat)} (hth0 : ∀ X, ThOk (cx nu one 1 laidE laidE_stab) (DUr s T st X) th0) (h0 : startOk l h 63 7 8 th0 sg0 (epUr st) (hpUr st) = true) {thx : LA} (hthx : ThOk (EUr_1 s T) (cx nu one 1 laidE laidE_stab) thx) (hx : exitOk l h 63 7 11 thx [(2, .s 0 0), (3, .i .i64 (.ofNat 0)), (4, .sy 7)] [(7, .t 0 5)] = true) : LfOk (cx nu one 1 laidE laidE_stab) bodyUr l :=
  lfOkX (E := EUr_1 s T) (InvUr s T) (muUr s T) (DUr s T) (fun _ _ => rfl) (fun _ _ => rfl) (fun _ _ => rfl) (fun st X t ht => nuX_keep.trans (rX_keep ((by decide : ∀ t, t ∈ keepUr → t < 1000000) t ht))) rfl rfl rfl hl hs ebUr rfl rfl st hI hth0 h0 hthx hx (roundsUr_1 s T c0 x0 x1)
def nuEUr_2 (s T : LB) : List Value := []
def roEUr_2 (s T : LB) : List Value := []
noncomputable def EUr_2 (s T : LB) : Cx := cx (nuX (nuEUr_2 s T) (rX (roEUr_2 s T) (fun _ => .bool true))) (nuX_one (nuL_one (l := nuEUr_2 s T) rfl)) 1 laidE laidE_stab
theorem roundsUr_2 (s T : LB) (c0 : s.length ≤ 400) (x0 : unS s = none) (st : Nat × Int × LB) (X : Nat → Value) (hI : InvUr s T st) : RHUr s T (EUr_2 s T) .ret [(2, .s 0 0), (3, .i .i64 (.ofNat 10))] [] st X := by
  obtain ⟨tag, i, b⟩ := st
  have hI0 := hI
  obtain ⟨i0, i1, i2, i3, i4, i5, it⟩ := unIUr s T tag i b hI
  rcases (show tag = 0 ∨ tag = 1 from by omega) with rfl | rfl
  · skip
    by_cases h0 : i < (s.length : Int)
    · by_cases h1 : bt s (Int.toNat (i)) = 37
      · by_cases h2 : (s.length : Int) ≤ i + 2
        · skip
          have := bt_lo s (Int.toNat (i)); have := bt_hi s (Int.toNat (i))
          refine lvUr_0 s T i b (h := hyUr_p2) rfl ?_ (thNil) runUr_p2
          unfold hyUr_p2
          exact hc (kBytesB (bs := ([] : LB)) .nil (denX rfl)) <|
           hc (lnV rfl rfl (by omega)) <|
           hc (ltT rfl rfl (by omega)) <|
           hc (ixV rfl rfl rfl (by omega)) <|
           hc (necF rfl (by omega)) <|
           hc (adC rfl rfl (by omega)) <|
           hc (geT rfl rfl (by omega)) <|
           hnil
        · by_cases h3 : vNib (bt s (Int.toNat (i + 1))) < 0
          · skip
            have := bt_lo s (Int.toNat (i)); have := bt_hi s (Int.toNat (i))
            have := bt_lo s (Int.toNat (i + 1)); have := bt_hi s (Int.toNat (i + 1))
            have := rNib (c := bt s (Int.toNat (i + 1))) (by omega) (by omega)
            have := bt_lo s (Int.toNat (i + 2)); have := bt_hi s (Int.toNat (i + 2))
            have := rNib (c := bt s (Int.toNat (i + 2))) (by omega) (by omega)
            refine lvUr_0 s T i b (h := hyUr_p4) rfl ?_ (thNil) runUr_p4
            unfold hyUr_p4
            exact hc (kBytesB (bs := ([] : LB)) .nil (denX rfl)) <|
             hc (lnV rfl rfl (by omega)) <|
             hc (ltT rfl rfl (by omega)) <|
             hc (ixV rfl rfl rfl (by omega)) <|
             hc (necF rfl (by omega)) <|
             hc (adC rfl rfl (by omega)) <|
             hc (geF rfl rfl (by omega)) <|
             hc (adC rfl rfl (by omega)) <|
             hc (ixV rfl rfl rfl (by omega)) <|
             hc (hokNib (isX rfl) (by omega) (by omega) (denX rfl)) <|
             hc (ixV rfl rfl rfl (by omega)) <|
             hc (hokNib (isX rfl) (by omega) (by omega) (denX rfl)) <|
             hc (ltcT rfl (by omega)) <|
             hnil
          · by_cases h4 : vNib (bt s (Int.toNat (i + 2))) < 0
            · skip
              have := bt_lo s (Int.toNat (i)); have := bt_hi s (Int.toNat (i))
              have := bt_lo s (Int.toNat (i + 1)); have := bt_hi s (Int.toNat (i + 1))
              have := rNib (c := bt s (Int.toNat (i + 1))) (by omega) (by omega)
              have := bt_lo s (Int.toNat (i + 2)); have := bt_hi s (Int.toNat (i + 2))
              have := rNib (c := bt s (Int.toNat (i + 2))) (by omega) (by omega)
              refine lvUr_0 s T i b (h := hyUr_p3) rfl ?_ (thNil) runUr_p3
              unfold hyUr_p3
              exact hc (kBytesB (bs := ([] : LB)) .nil (denX rfl)) <|
               hc (lnV rfl rfl (by omega)) <|
               hc (ltT rfl rfl (by omega)) <|
               hc (ixV rfl rfl rfl (by omega)) <|
               hc (necF rfl (by omega)) <|
               hc (adC rfl rfl (by omega)) <|
               hc (geF rfl rfl (by omega)) <|
               hc (adC rfl rfl (by omega)) <|
               hc (ixV rfl rfl rfl (by omega)) <|
               hc (hokNib (isX rfl) (by omega) (by omega) (denX rfl)) <|
               hc (ixV rfl rfl rfl (by omega)) <|
               hc (hokNib (isX rfl) (by omega) (by omega) (denX rfl)) <|
               hc (ltcF rfl (by omega)) <|
               hc (ltcT rfl (by omega)) <|
               hnil
            · by_cases h5 : (vNib (bt s (Int.toNat (i + 1)))) + (vNib (bt s (Int.toNat (i + 2)))) = 0
              · skip
                have := bt_lo s (Int.toNat (i)); have := bt_hi s (Int.toNat (i))
                have := bt_lo s (Int.toNat (i + 1)); have := bt_hi s (Int.toNat (i + 1))
                have := rNib (c := bt s (Int.toNat (i + 1))) (by omega) (by omega)
                have := bt_lo s (Int.toNat (i + 2)); have := bt_hi s (Int.toNat (i + 2))
                have := rNib (c := bt s (Int.toNat (i + 2))) (by omega) (by omega)
                refine lvUr_0 s T i b (h := hyUr_p5) rfl ?_ (thNil) runUr_p5
                unfold hyUr_p5
                exact hc (kBytesB (bs := ([] : LB)) .nil (denX rfl)) <|
                 hc (lnV rfl rfl (by omega)) <|
                 hc (ltT rfl rfl (by omega)) <|
                 hc (ixV rfl rfl rfl (by omega)) <|
                 hc (necF rfl (by omega)) <|
                 hc (adC rfl rfl (by omega)) <|
                 hc (geF rfl rfl (by omega)) <|
                 hc (adC rfl rfl (by omega)) <|
                 hc (ixV rfl rfl rfl (by omega)) <|
                 hc (hokNib (isX rfl) (by omega) (by omega) (denX rfl)) <|
                 hc (ixV rfl rfl rfl (by omega)) <|
                 hc (hokNib (isX rfl) (by omega) (by omega) (denX rfl)) <|
                 hc (ltcF rfl (by omega)) <|
                 hc (ltcF rfl (by omega)) <|
                 hc (adX rfl rfl rfl (by omega)) <|
                 hc (eqcT rfl (by omega)) <|
                 hnil
              · exact nxUr_p6 s T c0 i b X hI0 h0 h1 h2 h3 h4 h5
      · exact nxUr_p0 s T c0 i b X hI0 h0 h1
    · exfalso; rw [unO_nil (by rw [List.length_drop]; omega), x0] at i2; cases i2
  · skip
    by_cases h0 : i < (s.length : Int)
    · by_cases h1 : bt s (Int.toNat (i)) = 37
      · by_cases h2 : (s.length : Int) ≤ i + 2
        · skip
          have := bt_lo s (Int.toNat (i)); have := bt_hi s (Int.toNat (i))
          refine lvUr_1 s T i b (h := hyUr_p9) rfl ?_ (thNil) runUr_p9
          unfold hyUr_p9
          exact hc (kBytesB (bs := ([] : LB)) .nil (denX rfl)) <|
           hc (lnV rfl rfl (by omega)) <|
           hc (ltT rfl rfl (by omega)) <|
           hc (ixV rfl rfl rfl (by omega)) <|
           hc (necF rfl (by omega)) <|
           hc (adC rfl rfl (by omega)) <|
           hc (geT rfl rfl (by omega)) <|
           hnil
        · by_cases h3 : vNib (bt s (Int.toNat (i + 1))) < 0
          · skip
            have := bt_lo s (Int.toNat (i)); have := bt_hi s (Int.toNat (i))
            have := bt_lo s (Int.toNat (i + 1)); have := bt_hi s (Int.toNat (i + 1))
            have := rNib (c := bt s (Int.toNat (i + 1))) (by omega) (by omega)
            have := bt_lo s (Int.toNat (i + 2)); have := bt_hi s (Int.toNat (i + 2))
            have := rNib (c := bt s (Int.toNat (i + 2))) (by omega) (by omega)
            refine lvUr_1 s T i b (h := hyUr_p11) rfl ?_ (thNil) runUr_p11
            unfold hyUr_p11
            exact hc (kBytesB (bs := ([] : LB)) .nil (denX rfl)) <|
             hc (lnV rfl rfl (by omega)) <|
             hc (ltT rfl rfl (by omega)) <|
             hc (ixV rfl rfl rfl (by omega)) <|
             hc (necF rfl (by omega)) <|
             hc (adC rfl rfl (by omega)) <|
             hc (geF rfl rfl (by omega)) <|
             hc (adC rfl rfl (by omega)) <|
             hc (ixV rfl rfl rfl (by omega)) <|
             hc (hokNib (isX rfl) (by omega) (by omega) (denX rfl)) <|
             hc (ixV rfl rfl rfl (by omega)) <|
             hc (hokNib (isX rfl) (by omega) (by omega) (denX rfl)) <|
             hc (ltcT rfl (by omega)) <|
             hnil
          · by_cases h4 : vNib (bt s (Int.toNat (i + 2))) < 0
            · skip
              have := bt_lo s (Int.toNat (i)); have := bt_hi s (Int.toNat (i))
              have := bt_lo s (Int.toNat (i + 1)); have := bt_hi s (Int.toNat (i + 1))
              have := rNib (c := bt s (Int.toNat (i + 1))) (by omega) (by omega)
              have := bt_lo s (Int.toNat (i + 2)); have := bt_hi s (Int.toNat (i + 2))
              have := rNib (c := bt s (Int.toNat (i + 2))) (by omega) (by omega)
              refine lvUr_1 s T i b (h := hyUr_p10) rfl ?_ (thNil) runUr_p10
              unfold hyUr_p10
              exact hc (kBytesB (bs := ([] : LB)) .nil (denX rfl)) <|
               hc (lnV rfl rfl (by omega)) <|
               hc (ltT rfl rfl (by omega)) <|
               hc (ixV rfl rfl rfl (by omega)) <|
               hc (necF rfl (by omega)) <|
               hc (adC rfl rfl (by omega)) <|
               hc (geF rfl rfl (by omega)) <|
               hc (adC rfl rfl (by omega)) <|
               hc (ixV rfl rfl rfl (by omega)) <|
               hc (hokNib (isX rfl) (by omega) (by omega) (denX rfl)) <|
               hc (ixV rfl rfl rfl (by omega)) <|
               hc (hokNib (isX rfl) (by omega) (by omega) (denX rfl)) <|
               hc (ltcF rfl (by omega)) <|
               hc (ltcT rfl (by omega)) <|
               hnil
            · by_cases h5 : (vNib (bt s (Int.toNat (i + 1)))) + (vNib (bt s (Int.toNat (i + 2)))) = 0
              · skip
                have := bt_lo s (Int.toNat (i)); have := bt_hi s (Int.toNat (i))
                have := bt_lo s (Int.toNat (i + 1)); have := bt_hi s (Int.toNat (i + 1))
                have := rNib (c := bt s (Int.toNat (i + 1))) (by omega) (by omega)
                have := bt_lo s (Int.toNat (i + 2)); have := bt_hi s (Int.toNat (i + 2))
                have := rNib (c := bt s (Int.toNat (i + 2))) (by omega) (by omega)
                refine lvUr_1 s T i b (h := hyUr_p12) rfl ?_ (thNil) runUr_p12
                unfold hyUr_p12
                exact hc (kBytesB (bs := ([] : LB)) .nil (denX rfl)) <|
                 hc (lnV rfl rfl (by omega)) <|
                 hc (ltT rfl rfl (by omega)) <|
                 hc (ixV rfl rfl rfl (by omega)) <|
                 hc (necF rfl (by omega)) <|
                 hc (adC rfl rfl (by omega)) <|
                 hc (geF rfl rfl (by omega)) <|
                 hc (adC rfl rfl (by omega)) <|
                 hc (ixV rfl rfl rfl (by omega)) <|
                 hc (hokNib (isX rfl) (by omega) (by omega) (denX rfl)) <|
                 hc (ixV rfl rfl rfl (by omega)) <|
                 hc (hokNib (isX rfl) (by omega) (by omega) (denX rfl)) <|
                 hc (ltcF rfl (by omega)) <|
                 hc (ltcF rfl (by omega)) <|
                 hc (adX rfl rfl rfl (by omega)) <|
                 hc (eqcT rfl (by omega)) <|
                 hnil
              · exact nxUr_p13 s T c0 i b X hI0 h0 h1 h2 h3 h4 h5
      · exact nxUr_p7 s T c0 i b X hI0 h0 h1
    · exfalso; rw [unO_nil (by rw [List.length_drop]; omega), x0] at i2; cases i2
theorem lfOkUr_2 {l : LF} {h : LH} (s T : LB) (c0 : s.length ≤ 400) (x0 : unS s = none) (st : Nat × Int × LB) (hI : InvUr s T st) (hl : l.hp = some h) (hs : lfSame l h 63 keepUr .ret 7 7 11 = true) {th0 : LA} {sg0 : List (Nat × Nat)} (hth0 : ∀ X, ThOk (cx nu one 1 laidE laidE_stab) (DUr s T st X) th0) (h0 : startOk l h 63 7 8 th0 sg0 (epUr st) (hpUr st) = true) {thx : LA} (hthx : ThOk (EUr_2 s T) (cx nu one 1 laidE laidE_stab) thx) (hx : exitOk l h 63 7 11 thx [(2, .s 0 0), (3, .i .i64 (.ofNat 10))] [] = true) : LfOk (cx nu one 1 laidE laidE_stab) bodyUr l :=
  lfOkX (E := EUr_2 s T) (InvUr s T) (muUr s T) (DUr s T) (fun _ _ => rfl) (fun _ _ => rfl) (fun _ _ => rfl) (fun st X t ht => nuX_keep.trans (rX_keep ((by decide : ∀ t, t ∈ keepUr → t < 1000000) t ht))) rfl rfl rfl hl hs ebUr rfl rfl st hI hth0 h0 hthx hx (roundsUr_2 s T c0 x0)
noncomputable def fi19 : FI := (tabk.fn.get 19).getD default
theorem fi19_at : tabk.fn.get 19 = some fi19 := by kernel_rfl
theorem fi19_body : fi19.body = some (Tryd.f19.body.getD .skip) := by kernel_rfl
theorem fiB19 : fi19.body.isSome = true := by rw [fi19_body]; rfl
def hyUnR_0 : LK := []
def lh27 : LH := ⟨7, 7, 11, [], []⟩
def lf27 : LF := ⟨3, 63, [(0, .x 0), (2, .s 0 0), (3, .i .i64 (.ofNat 0)), (4, .nils), (5, .i .i64 (.ofNat 0))], [], (.exit 0), [(2, .s 0 0), (3, .i .i64 (.ofNat 0)), (4, .nils)], some lh27⟩
noncomputable def tabUnR_0 : Tab := addLps ({ tabk with hyp := hyUnR_0 }) 19 fi19 [lf27]
theorem runUnR_0 (e : Nat) : okA (call tabUnR_0 9000 19 [.x 0] ⟨H0 e , 7, 0, 0⟩) (.tu [.s 0 0, .i .i64 (.ofNat 0)]) = true := by kernel_rfl
def nuUnR_0 (s : LB) : List Value := [St' s]
theorem pathUnR_0 (s : LB) (b0 : s.length ≤ 9223372036854775807) (p0 : s.length ≤ 400) (h0 : ¬ (unS s = none)) (h1 : unS s = some []) (w : World) (hl : laidE w) : CwR 19 #[St' s] w (.tuple #[St' ([] : LB), .int .i64 0]) := by
  have ho : ∀ k r, (k, r) ∈ hyUnR_0 → HOk (cx (nuL (nuUnR_0 s)) (fun j _ => nuL_one (l := nuUnR_0 s) rfl j) 1 laidE laidE_stab) k r := by
    unfold hyUnR_0
    exact hnil
  refine runC (tb := tabUnR_0) (ra := .tu [.s 0 0, .i .i64 (.ofNat 0)]) rfl (AllOk.lp1 ((tabkOk (nuL (nuUnR_0 s)) (fun j _ => nuL_one (l := nuUnR_0 s) rfl j)).hyps ho) (by omega) fi19_at fi19_body (lfCons (lpKnown rfl ⟨0, keyUr, lfOkUr_0 (l := lf27) (h := lh27) s ([] : LB) (by omega) (by assumption) (0, (0 : Int), ([] : LB)) (mkIUr s ([] : LB) 0 (0 : Int) ([] : LB) ⟨by omega, by omega, by show unO [] s = unS s; unfold unO; cases unS s <;> simp, fun _ => rfl, fun h => by omega, by simp, by omega⟩) rfl (by kernel_rfl) (th0 := [(0, .x 0), (1, .i .i64 (.ofNat 0))]) (sg0 := []) (fun X => thXv (v := St' s) rfl rfl (thCons (show Is _ (.i .i64 (.ofNat 0)) (.int .i64 ((0 : Int))) from isTo (v := .int .i64 0) (isI _ _) (by first | rfl | (congr 1; omega))) (thNil))) (by kernel_rfl) (thx := []) (thNil) (by kernel_rfl)⟩) lfNil)) rfl (get_lps (by omega)) fiB19 (fun e => runUnR_0 e ) (args := [St' s]) (by simp only [RelL, Rel]; exact ⟨_, _, rfl, rfl, rfl⟩) w hl fun x hx => ?_
  simp only [Rel, RelL] at hx
  obtain ⟨_, rfl, ⟨_, _, rfl, ⟨rfl, _⟩, ⟨_, _, rfl, rfl, rfl⟩⟩⟩ := hx
  rfl
def hyUnR_1 : LK := []
def lh28 : LH := ⟨7, 7, 11, [], [(7, .t 1 5)]⟩
def lf28 : LF := ⟨3, 63, [(0, .x 0), (2, .s 0 0), (3, .i .i64 (.ofNat 0)), (4, .nils), (5, .i .i64 (.ofNat 0))], [], (.exit 0), [(2, .s 0 0), (3, .i .i64 (.ofNat 0)), (4, .sy 7)], some lh28⟩
noncomputable def tabUnR_1 : Tab := addLps ({ tabk with hyp := hyUnR_1 }) 19 fi19 [lf28]
theorem runUnR_1 (e : Nat) : okA (call tabUnR_1 9000 19 [.x 0] ⟨H0 e , 7, 0, 0⟩) (.tu [.x 1, .i .i64 (.ofNat 0)]) = true := by kernel_rfl
def nuUnR_1 (s : LB) : List Value := [St' s, St' ((unS s).getD [])]
theorem pathUnR_1 (s : LB) (b0 : s.length ≤ 9223372036854775807) (p0 : s.length ≤ 400) (h0 : ¬ (unS s = none)) (h1 : ¬ (unS s = some [])) (w : World) (hl : laidE w) : CwR 19 #[St' s] w (.tuple #[St' ((unS s).getD []), .int .i64 0]) := by
  obtain ⟨T, hT⟩ : ∃ T, unS s = some T := by cases h : unS s with | none => exact absurd h (by assumption) | some T => exact ⟨T, rfl⟩
  have hTg : (unS s).getD [] = T := by rw [hT]; rfl
  have hTp : 1 ≤ ((unS s).getD []).length := by rw [hTg]; exact List.length_pos_iff.2 (fun h => (by assumption : ¬ unS s = some []) (by rw [hT, h]))
  have := unS_len hT
  rw [← hTg] at this
  have ho : ∀ k r, (k, r) ∈ hyUnR_1 → HOk (cx (nuL (nuUnR_1 s)) (fun j _ => nuL_one (l := nuUnR_1 s) rfl j) 1 laidE laidE_stab) k r := by
    unfold hyUnR_1
    exact hnil
  refine runC (tb := tabUnR_1) (ra := .tu [.x 1, .i .i64 (.ofNat 0)]) rfl (AllOk.lp1 ((tabkOk (nuL (nuUnR_1 s)) (fun j _ => nuL_one (l := nuUnR_1 s) rfl j)).hyps ho) (by omega) fi19_at fi19_body (lfCons (lpKnown rfl ⟨0, keyUr, lfOkUr_1 (l := lf28) (h := lh28) s ((unS s).getD []) (by omega) (by rw [hT]; rfl) hTp (0, (0 : Int), ([] : LB)) (mkIUr s ((unS s).getD []) 0 (0 : Int) ([] : LB) ⟨by omega, by omega, by show unO [] s = unS s; unfold unO; cases unS s <;> simp, fun _ => rfl, fun h => by omega, by simp, by omega⟩) rfl (by kernel_rfl) (th0 := [(0, .x 0), (1, .i .i64 (.ofNat 0))]) (sg0 := []) (fun X => thXv (v := St' s) rfl rfl (thCons (show Is _ (.i .i64 (.ofNat 0)) (.int .i64 ((0 : Int))) from isTo (v := .int .i64 0) (isI _ _) (by first | rfl | (congr 1; omega))) (thNil))) (by kernel_rfl) (thx := [(1, .x 0)]) (thXv (v := St' ((unS s).getD [])) rfl rfl (thNil)) (by kernel_rfl)⟩) lfNil)) rfl (get_lps (by omega)) fiB19 (fun e => runUnR_1 e ) (args := [St' s]) (by simp only [RelL, Rel]; exact ⟨_, _, rfl, rfl, rfl⟩) w hl fun x hx => ?_
  simp only [Rel, RelL] at hx
  obtain ⟨_, rfl, ⟨_, _, rfl, rfl, ⟨_, _, rfl, rfl, rfl⟩⟩⟩ := hx
  rfl
def hyUnR_2 : LK := []
def lh29 : LH := ⟨7, 7, 11, [], []⟩
def lf29 : LF := ⟨3, 63, [(0, .x 0), (2, .s 0 0), (3, .i .i64 (.ofNat 0)), (4, .nils), (5, .i .i64 (.ofNat 0))], [], .ret, [(2, .s 0 0), (3, .i .i64 (.ofNat 10))], some lh29⟩
noncomputable def tabUnR_2 : Tab := addLps ({ tabk with hyp := hyUnR_2 }) 19 fi19 [lf29]
theorem runUnR_2 (e : Nat) : okA (call tabUnR_2 9000 19 [.x 0] ⟨H0 e , 7, 0, 0⟩) (.tu [.s 0 0, .i .i64 (.ofNat 10)]) = true := by kernel_rfl
def nuUnR_2 (s : LB) : List Value := [St' s]
theorem pathUnR_2 (s : LB) (b0 : s.length ≤ 9223372036854775807) (p0 : s.length ≤ 400) (h0 : unS s = none) (w : World) (hl : laidE w) : CwR 19 #[St' s] w (.tuple #[St' ([] : LB), .int .i64 10]) := by
  have ho : ∀ k r, (k, r) ∈ hyUnR_2 → HOk (cx (nuL (nuUnR_2 s)) (fun j _ => nuL_one (l := nuUnR_2 s) rfl j) 1 laidE laidE_stab) k r := by
    unfold hyUnR_2
    exact hnil
  refine runC (tb := tabUnR_2) (ra := .tu [.s 0 0, .i .i64 (.ofNat 10)]) rfl (AllOk.lp1 ((tabkOk (nuL (nuUnR_2 s)) (fun j _ => nuL_one (l := nuUnR_2 s) rfl j)).hyps ho) (by omega) fi19_at fi19_body (lfCons (lpKnown rfl ⟨0, keyUr, lfOkUr_2 (l := lf29) (h := lh29) s ([] : LB) (by omega) (by assumption) (0, (0 : Int), ([] : LB)) (mkIUr s ([] : LB) 0 (0 : Int) ([] : LB) ⟨by omega, by omega, by show unO [] s = unS s; unfold unO; cases unS s <;> simp, fun _ => rfl, fun h => by omega, by simp, by omega⟩) rfl (by kernel_rfl) (th0 := [(0, .x 0), (1, .i .i64 (.ofNat 0))]) (sg0 := []) (fun X => thXv (v := St' s) rfl rfl (thCons (show Is _ (.i .i64 (.ofNat 0)) (.int .i64 ((0 : Int))) from isTo (v := .int .i64 0) (isI _ _) (by first | rfl | (congr 1; omega))) (thNil))) (by kernel_rfl) (thx := []) (thNil) (by kernel_rfl)⟩) lfNil)) rfl (get_lps (by omega)) fiB19 (fun e => runUnR_2 e ) (args := [St' s]) (by simp only [RelL, Rel]; exact ⟨_, _, rfl, rfl, rfl⟩) w hl fun x hx => ?_
  simp only [Rel, RelL] at hx
  obtain ⟨_, rfl, ⟨_, _, rfl, ⟨rfl, _⟩, ⟨_, _, rfl, rfl, rfl⟩⟩⟩ := hx
  rfl
theorem callsUnR (s : LB) (b0 : s.length ≤ 9223372036854775807) (p0 : s.length ≤ 400) (w : World) (hl : laidE w) : CwR 19 #[St' s] w (if unS s = none then .tuple #[St' [], .int .i64 10] else .tuple #[St' ((unS s).getD []), .int .i64 0]) := by
  by_cases h0 : unS s = none
  · rw [show (if unS s = none then .tuple #[St' [], .int .i64 10] else .tuple #[St' ((unS s).getD []), .int .i64 0] : Value) = (.tuple #[St' ([] : LB), .int .i64 10] : Value) from by first | (rw [if_pos (by assumption)]; done) | (rw [if_neg (by assumption)]; done) | (rw [if_neg (by assumption), (by assumption : unS s = some [])]; rfl)]
    exact pathUnR_2 s b0 p0 h0 w hl
  · by_cases h1 : unS s = some []
    · rw [show (if unS s = none then .tuple #[St' [], .int .i64 10] else .tuple #[St' ((unS s).getD []), .int .i64 0] : Value) = (.tuple #[St' ([] : LB), .int .i64 0] : Value) from by first | (rw [if_pos (by assumption)]; done) | (rw [if_neg (by assumption)]; done) | (rw [if_neg (by assumption), (by assumption : unS s = some [])]; rfl)]
      exact pathUnR_0 s b0 p0 h0 h1 w hl
    · rw [show (if unS s = none then .tuple #[St' [], .int .i64 10] else .tuple #[St' ((unS s).getD []), .int .i64 0] : Value) = (.tuple #[St' ((unS s).getD []), .int .i64 0] : Value) from by first | (rw [if_pos (by assumption)]; done) | (rw [if_neg (by assumption)]; done) | (rw [if_neg (by assumption), (by assumption : unS s = some [])]; rfl)]
      exact pathUnR_1 s b0 p0 h0 h1 w hl
theorem hokUnR {x0 r : AV} {s : LB} (i0 : Is (cx nu one 1 laidE laidE_stab) x0 (St' s)) (hr : Den (cx nu one 1 laidE laidE_stab) r (if unS s = none then .tuple #[St' [], .int .i64 10] else .tuple #[St' ((unS s).getD []), .int .i64 0])) (b0 : s.length ≤ 9223372036854775807) (p0 : s.length ≤ 400) : HOk (cx nu one 1 laidE laidE_stab) (.call 19 [x0]) r := by
  intro ρ args ha w hl _
  simp only [RelL] at ha
  obtain ⟨v0, t0, rfl, a0, rfl⟩ := ha
  have e0 := i0 ρ _ a0; subst e0
  exact (callsUnR s b0 p0 w hl).mono fun e w' he => ⟨_, he.1, hr ρ, he.2⟩
theorem denNi {C : Cx} : Den C .ni .nilIface := fun ρ => by simp only [Rel]
theorem denIfc {C : Cx} {t : Nat} {a : AV} {v : Value} (h : Den C a v) : Den C (.ifc t a) (.iface t v) := fun ρ => by simp only [Rel]; exact ⟨_, rfl, h ρ⟩
theorem denA2 {C : Cx} {a b : AV} {v u : Value} (h : Den C a v) (k : Den C b u) : Den C (.ag [a, b]) (.agg #[v, u]) := fun ρ => by simp only [Rel, RelL]; exact ⟨_, rfl, _, _, rfl, h ρ, _, _, rfl, k ρ, rfl⟩
theorem denS0 {C : Cx} : Den C (.s 0 0) (St' []) := denS (len := 0) (n := 0) (by decide)
theorem fiNCodeF : tabk.fn.get 26 = some (fI Tryd.f26 0) ∧ (fI Tryd.f26 0).body.isSome = true := ⟨rfl, by kernel_rfl⟩
def hyCodeF_0 : LK := []
theorem runCodeF_0 (e : Nat) : okA (call (tbl hyCodeF_0) 9000 26 [.ifc 163 (.ag [.i .i64 (.ofNat 10), .x 0])] ⟨H0 e , 7, 0, 0⟩) (.i .i64 (.ofNat 10)) = true := by kernel_rfl
def nuCodeF_0 (m : LB) : List Value := [St' m]
theorem pathCodeF_0 (m : LB) (w : World) (hl : laidE w) : CwR 26 #[.iface 163 (.agg #[.int .i64 10, St' m])] w (.int .i64 10) := by
  have ho : ∀ k r, (k, r) ∈ hyCodeF_0 → HOk (cx (nuL (nuCodeF_0 m)) (fun j _ => nuL_one (l := nuCodeF_0 m) rfl j) 1 laidE laidE_stab) k r := by
    unfold hyCodeF_0
    exact hnil
  refine runC (tb := (tbl hyCodeF_0)) (ra := .i .i64 (.ofNat 10)) rfl ((tabkOk (nuL (nuCodeF_0 m)) (fun j _ => nuL_one (l := nuCodeF_0 m) rfl j)).hyps ho) rfl fiNCodeF.1 fiNCodeF.2 (fun e => runCodeF_0 e ) (args := [.iface 163 (.agg #[.int .i64 10, St' m])]) (by simp only [RelL, Rel]; exact ⟨_, _, rfl, ⟨_, rfl, ⟨_, rfl, ⟨_, _, rfl, rfl, ⟨_, _, rfl, rfl, rfl⟩⟩⟩⟩, rfl⟩) w hl fun x hx => ?_
  simp only [Rel, RelL] at hx
  exact hx
theorem callsCodeF (m : LB) (w : World) (hl : laidE w) : CwR 26 #[.iface 163 (.agg #[.int .i64 10, St' m])] w (.int .i64 10) := by
  rw [show (.int .i64 10 : Value) = (.int .i64 10 : Value) from by rfl]
  exact pathCodeF_0 m w hl
theorem hokCodeF {x0 r : AV} {m : LB} (i0 : Is (cx nu one 1 laidE laidE_stab) x0 (.iface 163 (.agg #[.int .i64 10, St' m]))) (hr : Den (cx nu one 1 laidE laidE_stab) r (.int .i64 10)) : HOk (cx nu one 1 laidE laidE_stab) (.call 26 [x0]) r := by
  intro ρ args ha w hl _
  simp only [RelL] at ha
  obtain ⟨v0, t0, rfl, a0, rfl⟩ := ha
  have e0 := i0 ρ _ a0; subst e0
  exact (callsCodeF m w hl).mono fun e w' he => ⟨_, he.1, hr ρ, he.2⟩
theorem fiNCodeZ : tabk.fn.get 26 = some (fI Tryd.f26 0) ∧ (fI Tryd.f26 0).body.isSome = true := ⟨rfl, by kernel_rfl⟩
def hyCodeZ_0 : LK := []
theorem runCodeZ_0 (e : Nat) : okA (call (tbl hyCodeZ_0) 9000 26 [.ni] ⟨H0 e , 7, 0, 0⟩) (.i .i64 (.ofNat 0)) = true := by kernel_rfl
def nuCodeZ_0 : List Value := []
theorem pathCodeZ_0 (w : World) (hl : laidE w) : CwR 26 #[.nilIface] w (.int .i64 0) := by
  have ho : ∀ k r, (k, r) ∈ hyCodeZ_0 → HOk (cx (nuL (nuCodeZ_0)) (fun j _ => nuL_one (l := nuCodeZ_0) rfl j) 1 laidE laidE_stab) k r := by
    unfold hyCodeZ_0
    exact hnil
  refine runC (tb := (tbl hyCodeZ_0)) (ra := .i .i64 (.ofNat 0)) rfl ((tabkOk (nuL (nuCodeZ_0)) (fun j _ => nuL_one (l := nuCodeZ_0) rfl j)).hyps ho) rfl fiNCodeZ.1 fiNCodeZ.2 (fun e => runCodeZ_0 e ) (args := [.nilIface]) (by simp only [RelL, Rel]; exact ⟨_, _, rfl, rfl, rfl⟩) w hl fun x hx => ?_
  simp only [Rel, RelL] at hx
  exact hx
theorem callsCodeZ (w : World) (hl : laidE w) : CwR 26 #[.nilIface] w (.int .i64 0) := by
  rw [show (.int .i64 0 : Value) = (.int .i64 0 : Value) from by rfl]
  exact pathCodeZ_0 w hl
theorem hokCodeZ {x0 r : AV} (i0 : Is (cx nu one 1 laidE laidE_stab) x0 (.nilIface)) (hr : Den (cx nu one 1 laidE laidE_stab) r (.int .i64 0)) : HOk (cx nu one 1 laidE laidE_stab) (.call 26 [x0]) r := by
  intro ρ args ha w hl _
  simp only [RelL] at ha
  obtain ⟨v0, t0, rfl, a0, rfl⟩ := ha
  have e0 := i0 ρ _ a0; subst e0
  exact (callsCodeZ w hl).mono fun e w' he => ⟨_, he.1, hr ρ, he.2⟩
noncomputable def unE (s : LB) : Value := if unS s = none then .iface 163 (.agg #[.int .i64 10, St' (unM s)]) else .nilIface
def unC (s : LB) : Int := if unS s = none then 10 else 0
theorem unE_one (s : LB) : (unE s).oneCell' = true := by unfold unE; split <;> rfl
theorem unDen {s : LB} {i j : Nat} (hi : nu i = St' ((unS s).getD [])) (hj : nu j = unE s) : Den (cx nu one 1 laidE laidE_stab) (.tu [.x i, .x j]) (if unS s = none then .tuple #[St' [], .iface 163 (.agg #[.int .i64 10, St' (unM s)])] else .tuple #[St' ((unS s).getD []), .nilIface]) := by
  by_cases h : unS s = none
  · rw [if_pos h]; refine denT2 (denX ?_) (denX ?_)
    · show nu i = _; rw [hi, h]; rfl
    · show nu j = _; rw [hj, unE, if_pos h]
  · rw [if_neg h]; refine denT2 (denX hi) (denX ?_)
    show nu j = _; rw [hj, unE, if_neg h]
theorem unDenR {s : LB} {i j : Nat} (hi : nu i = St' ((unS s).getD [])) (hj : nu j = .int .i64 (unC s)) : Den (cx nu one 1 laidE laidE_stab) (.tu [.x i, .x j]) (if unS s = none then .tuple #[St' [], .int .i64 10] else .tuple #[St' ((unS s).getD []), .int .i64 0]) := by
  by_cases h : unS s = none
  · rw [if_pos h]; refine denT2 (denX ?_) (denX ?_)
    · show nu i = _; rw [hi, h]; rfl
    · show nu j = _; rw [hj, unC, if_pos h]
  · rw [if_neg h]; refine denT2 (denX hi) (denX ?_)
    show nu j = _; rw [hj, unC, if_neg h]
theorem hokCodeE {s : LB} {j : Nat} {r : AV} (hj : nu j = unE s) (hr : Den (cx nu one 1 laidE laidE_stab) r (.int .i64 (unC s))) : HOk (cx nu one 1 laidE laidE_stab) (.call 26 [.x j]) r := by
  by_cases h : unS s = none
  · exact hokCodeF (m := unM s) (isX (by show nu j = _; rw [hj, unE, if_pos h])) (by rw [unC, if_pos h] at hr; exact hr)
  · exact hokCodeZ (isX (by show nu j = _; rw [hj, unE, if_neg h])) (by rw [unC, if_neg h] at hr; exact hr)
end Go.Proofs.YtacflaaahanhgaaDoor.octetTells
