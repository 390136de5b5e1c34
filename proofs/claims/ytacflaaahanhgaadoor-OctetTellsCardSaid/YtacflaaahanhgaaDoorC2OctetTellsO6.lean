/- A part of the proof: an interpreter of the model's own code on partly known states, and that what it answers is what the program answers. No condition of its own. -/
import Derived.Test.YtacflaaahanhgaaDoorC2OctetTellsO5
set_option maxRecDepth 100000
set_option linter.unusedVariables false
set_option linter.unusedSimpArgs false
set_option maxHeartbeats 4000000
namespace Go.Proofs.YtacflaaahanhgaaDoor.octetTells
open Go Go.AX Go.Proofs Go.Proofs.YtacflaaahanhgaaDoor
variable {nu : Nat → Value} {one : ∀ i, i < 1000000 → (nu i).oneCell' = true} {E' : Cx} {x' : Ex} {e' : LA} {h' : LE}
def hxU (d : Int) : Int := if d ≤ 9 then d + 48 else d + 55
theorem hxU_lo {d : Int} (h0 : 0 ≤ d) (h1 : d ≤ 15) : 48 ≤ hxU d ∧ hxU d ≤ 70 := by unfold hxU; split <;> omega
theorem hxU_sub {P Q : Int} (h0 : 0 ≤ P) (h1 : P ≤ 15) (hq : Q = P + 1) : [u8 (hxU P)] = (([u8 48, u8 49, u8 50, u8 51, u8 52, u8 53, u8 54, u8 55, u8 56, u8 57, u8 65, u8 66, u8 67, u8 68, u8 69, u8 70] : LB).drop P.toNat).take (Q - P).toNat := by
  obtain ⟨n, rfl⟩ := Int.eq_ofNat_of_zero_le h0
  have e : (Q - (n : Int)).toNat = 1 := by omega
  rw [e]
  have h : ∀ m : Fin 16, [u8 (hxU (m.val : Int))] = (([u8 48, u8 49, u8 50, u8 51, u8 52, u8 53, u8 54, u8 55, u8 56, u8 57, u8 65, u8 66, u8 67, u8 68, u8 69, u8 70] : LB).drop m.val).take 1 := by decide +kernel
  exact h ⟨n, by omega⟩
def escB (c : Int) : LB := if tb8 MAln c = true ∨ 0 ≤ vIxp c then [u8 c] else [u8 37, u8 (hxU (c / 16)), u8 (hxU (c % 16))]
def escS : LB → LB
  | [] => []
  | c :: r => escB (c.toNat : Int) ++ escS r
theorem escB_aln {c : Int} (h : tb8 MAln c = true) : escB c = [u8 c] := if_pos (.inl h)
theorem escB_ix {c : Int} (h : 0 ≤ vIxp c) : escB c = [u8 c] := if_pos (.inr h)
theorem escB_no {c : Int} (h : ¬ (tb8 MAln c = true)) (h2 : ¬ (0 ≤ vIxp c)) : escB c = [u8 37, u8 (hxU (c / 16)), u8 (hxU (c % 16))] := if_neg (fun x => x.elim h h2)
theorem drop_bt {s : LB} {i : Int} (h0 : 0 ≤ i) (h : i < (s.length : Int)) : s.drop i.toNat = u8 (bt s i.toNat) :: s.drop (i + 1).toNat := by
  have hlt : i.toNat < s.length := by omega
  rw [List.drop_eq_getElem_cons hlt, show (i + 1).toNat = i.toNat + 1 by omega]
  rw [u8_bt, List.getD_eq_getElem?_getD, List.getElem?_eq_getElem hlt, Option.getD_some]
theorem esc_step {s : LB} {i : Int} (h0 : 0 ≤ i) (h : i < (s.length : Int)) : escS (s.drop i.toNat) = escB (bt s i.toNat) ++ escS (s.drop (i + 1).toNat) := by
  rw [drop_bt h0 h, escS, u8_toNat (bt_lo _ _) (bt_hi _ _)]
theorem esc_end {s : LB} {i : Int} (h : ¬ i < (s.length : Int)) : escS (s.drop i.toNat) = [] := by
  rw [List.drop_eq_nil_of_le (by omega)]; rfl
theorem escB_len (c : Int) : 1 ≤ (escB c).length ∧ (escB c).length ≤ 3 := by unfold escB; split <;> simp
theorem escS_len : ∀ s : LB, s.length ≤ (escS s).length ∧ (escS s).length ≤ 3 * s.length
  | [] => by simp [escS]
  | c :: r => by
    have := escS_len r; have := escB_len (c.toNat : Int)
    simp only [escS, List.length_append, List.length_cons]; omega
noncomputable def bodyEs : Code := loopNo (Tryd.f27.body.getD .skip) 0
theorem keyEs : oneKey (loopsOf (Tryd.f27.body.getD .skip)) 3 0 0 = true := by kernel_rfl
def keepEs : List Nat := [2]
def epEs_0 : LA := [(0, .x 0), (3, .p 7 0), (6, .x 0), (7, .x 1), (8, .x 2)]
def hpEs_0 : LE := [(7, .b ⟨92, .l [.nilp, .nils], 0, 0, 0, false, false⟩)]
def nuEs_0 (s T : LB) (i : Int) (b : LB) : List Value := [St' s, .int .i64 ((s.length : Int)), .int .i64 (i), St' ([] : LB), St' ([] : LB), .int .u8 (bt s (Int.toNat (i))), St' ([u8 (bt s (Int.toNat (i)))]), .int .u8 (bt s (Int.toNat (i))), .int .i64 (i + 1), St' ([] : LB), .int .u8 (bt s (Int.toNat (i))), .int .i64 (vIxp (bt s (Int.toNat (i)))), St' ([u8 (bt s (Int.toNat (i)))]), .int .u8 (bt s (Int.toNat (i))), .int .i64 (i + 1), St' ([] : LB), .int .u8 (bt s (Int.toNat (i))), .int .i64 (vIxp (bt s (Int.toNat (i)))), .int .u8 ((bt s (Int.toNat (i))) / 16), .int .u8 (((bt s (Int.toNat (i))) / 16) + 1), St' ([u8 (hxU ((bt s (Int.toNat (i))) / 16))]), St' ([u8 37, u8 (hxU ((bt s (Int.toNat (i))) / 16))]), .int .u8 ((bt s (Int.toNat (i))) % 16), .int .u8 (((bt s (Int.toNat (i))) % 16) + 1), St' ([u8 (hxU ((bt s (Int.toNat (i))) % 16))]), St' ([u8 37, u8 (hxU ((bt s (Int.toNat (i))) / 16)), u8 (hxU ((bt s (Int.toNat (i))) % 16))]), .int .i64 (i + 1)]
def roEs_0 (s T : LB) (i : Int) (b : LB) : List Value := []
def epEs_1 : LA := [(0, .x 0), (3, .p 7 0), (6, .x 0), (7, .x 1), (8, .x 2)]
def hpEs_1 : LE := [(7, .b ⟨92, .l [.p 7 0, .sy 8], 0, 0, 0, false, false⟩), (8, .t 3 5)]
def nuEs_1 (s T : LB) (i : Int) (b : LB) : List Value := [St' s, .int .i64 ((s.length : Int)), .int .i64 (i), St' b, St' ([] : LB), St' ([] : LB), .int .u8 (bt s (Int.toNat (i))), St' (b ++ [u8 (bt s (Int.toNat (i)))]), .int .i64 (i + 1), St' ([] : LB), .int .u8 (bt s (Int.toNat (i))), .int .i64 (vIxp (bt s (Int.toNat (i)))), St' (b ++ [u8 (bt s (Int.toNat (i)))]), .int .i64 (i + 1), St' ([] : LB), .int .u8 (bt s (Int.toNat (i))), .int .i64 (vIxp (bt s (Int.toNat (i)))), .int .u8 ((bt s (Int.toNat (i))) / 16), .int .u8 (((bt s (Int.toNat (i))) / 16) + 1), St' ([u8 (hxU ((bt s (Int.toNat (i))) / 16))]), St' ([u8 37, u8 (hxU ((bt s (Int.toNat (i))) / 16))]), .int .u8 ((bt s (Int.toNat (i))) % 16), .int .u8 (((bt s (Int.toNat (i))) % 16) + 1), St' ([u8 (hxU ((bt s (Int.toNat (i))) % 16))]), St' ([u8 37, u8 (hxU ((bt s (Int.toNat (i))) / 16)), u8 (hxU ((bt s (Int.toNat (i))) % 16))]), St' (b ++ [u8 37, u8 (hxU ((bt s (Int.toNat (i))) / 16)), u8 (hxU ((bt s (Int.toNat (i))) % 16))]), .int .i64 (i + 1)]
def roEs_1 (s T : LB) (i : Int) (b : LB) : List Value := []
def epEs (st : Nat × Int × LB) : LA := if st.1 = 0 then epEs_0 else epEs_1
def hpEs (st : Nat × Int × LB) : LE := if st.1 = 0 then hpEs_0 else hpEs_1
def nuEs (s T : LB) (st : Nat × Int × LB) : List Value := if st.1 = 0 then nuEs_0 s T (st.2.1) (st.2.2) else nuEs_1 s T (st.2.1) (st.2.2)
def roEs (s T : LB) (st : Nat × Int × LB) : List Value := if st.1 = 0 then roEs_0 s T (st.2.1) (st.2.2) else roEs_1 s T (st.2.1) (st.2.2)
theorem onEs (s T : LB) (st : Nat × Int × LB) : ∀ j, (nuL (nuEs s T st) j).oneCell' = true := by
  intro j
  unfold nuEs
  split
  · exact nuL_one (l := nuEs_0 s T (st.2.1) (st.2.2)) rfl j
  exact nuL_one (l := nuEs_1 s T (st.2.1) (st.2.2)) rfl j
theorem ebEs (st : Nat × Int × LB) : (lfB (epEs st) && lfC keepEs) = true := by
  unfold epEs
  split
  · rfl
  rfl
noncomputable def DEs (s T : LB) (st : Nat × Int × LB) (X : Nat → Value) : Cx := cx (nuX (nuEs s T st) (rX (roEs s T st) X)) (nuX_one (onEs s T st)) 1 laidE laidE_stab
def InvEs (s T : LB) (st : Nat × Int × LB) : Prop := (0 ≤ (st.2.1)) ∧ ((st.2.1) ≤ (s.length : Int)) ∧ ((st.2.2) ++ escS (s.drop (st.2.1).toNat) = T) ∧ (((st.2.2).length : Int) ≤ 3 * (st.2.1)) ∧ ((st.1) = 0 → (st.2.2) = []) ∧ ((st.1) = 1 → (st.2.2) ≠ []) ∧ ((st.1) = 0 → (st.2.1) = 0) ∧ ((st.1) = 1 → 1 ≤ (st.2.1)) ∧ ((st.1) < 2)
abbrev CjEs (s T : LB) (tag : Nat) (i : Int) (b : LB) : Prop := (0 ≤ i) ∧ (i ≤ (s.length : Int)) ∧ (b ++ escS (s.drop i.toNat) = T) ∧ ((b.length : Int) ≤ 3 * i) ∧ (tag = 0 → b = []) ∧ (tag = 1 → b ≠ []) ∧ (tag = 0 → i = 0) ∧ (tag = 1 → 1 ≤ i) ∧ (tag < 2)
theorem mkIEs (s T : LB) (tag : Nat) (i : Int) (b : LB) (h : CjEs s T tag i b) : InvEs s T (tag, i, b) := h
theorem unIEs (s T : LB) (tag : Nat) (i : Int) (b : LB) (h : InvEs s T (tag, i, b)) : (0 ≤ i) ∧ (i ≤ (s.length : Int)) ∧ (b ++ escS (s.drop i.toNat) = T) ∧ ((b.length : Int) ≤ 3 * i) ∧ (tag = 0 → b = []) ∧ (tag = 1 → b ≠ []) ∧ (tag = 0 → i = 0) ∧ (tag = 1 → 1 ≤ i) ∧ (tag < 2) := h
def muEs (s T : LB) (st : Nat × Int × LB) : Nat := (s.length - (st.2.1).toNat)
abbrev RHEs (s T : LB) (E' : Cx) (ex' : Ex) (epx' : LA) (hpx' : LE) (st : Nat × Int × LB) (X : Nat → Value) : Prop := RoundH E' bodyEs keepEs 40 ex' 7 8 9 14 epEs hpEs epx' hpx' (InvEs s T) (muEs s T) (DEs s T) st X
noncomputable abbrev RNEs_0 (h : LK) (x : Ex) (th : LA) (sg : List (Nat × Nat)) (m : Nat) (ep : LA) (hp : LE) : Bool := okRdH (code (tbl h) 2000 [] bodyEs (envOf (headOf epEs_0 keepEs) 40) ⟨lhSet hpEs_0 .leaf, 9, 0, 0⟩) x keepEs 40 14 th sg 8 m ep hp
theorem stEs_0 (s T : LB) (i : Int) (b : LB) {X : Nat → Value} {h : LK} (y : Nat × Int × LB) {th : LA} {sg : List (Nat × Nat)} (ho : ∀ a' r', (a', r') ∈ h → HOk (cx (nuX (nuEs_0 s T i b) (rX (roEs_0 s T i b) X)) (nuX_one (nuL_one (l := nuEs_0 s T i b) rfl)) 1 laidE laidE_stab) a' r') (hy : InvEs s T y) (lt : muEs s T y < muEs s T (0, i, b)) (ht : ThOk (cx (nuX (nuEs_0 s T i b) (rX (roEs_0 s T i b) X)) (nuX_one (nuL_one (l := nuEs_0 s T i b) rfl)) 1 laidE laidE_stab) (DEs s T y X) th) (run : RNEs_0 h .normal th sg 9 (epEs y) (hpEs y) = true) : RHEs s T E' x' e' h' (0, i, b) X :=
  RoundH.next (tb := tbl h) (L := []) (f := 2000) y ((tabkOk _ _).hyps ho) (LpOk.nil _) rfl hy lt ht run
theorem lvEs_0 (s T : LB) (i : Int) (b : LB) {X : Nat → Value} {h : LK} {th : LA} {sg : List (Nat × Nat)} (hne : exB x' .normal = false) (ho : ∀ a' r', (a', r') ∈ h → HOk (cx (nuX (nuEs_0 s T i b) (rX (roEs_0 s T i b) X)) (nuX_one (nuL_one (l := nuEs_0 s T i b) rfl)) 1 laidE laidE_stab) a' r') (ht : ThOk (cx (nuX (nuEs_0 s T i b) (rX (roEs_0 s T i b) X)) (nuX_one (nuL_one (l := nuEs_0 s T i b) rfl)) 1 laidE laidE_stab) E' th) (run : RNEs_0 h x' th sg 14 e' h' = true) : RHEs s T E' x' e' h' (0, i, b) X :=
  RoundH.leave (tb := tbl h) (L := []) (f := 2000) ((tabkOk _ _).hyps ho) (LpOk.nil _) rfl hne ht run
noncomputable abbrev RNEs_1 (h : LK) (x : Ex) (th : LA) (sg : List (Nat × Nat)) (m : Nat) (ep : LA) (hp : LE) : Bool := okRdH (code (tbl h) 2000 [] bodyEs (envOf (headOf epEs_1 keepEs) 40) ⟨lhSet hpEs_1 .leaf, 9, 0, 0⟩) x keepEs 40 14 th sg 8 m ep hp
theorem stEs_1 (s T : LB) (i : Int) (b : LB) {X : Nat → Value} {h : LK} (y : Nat × Int × LB) {th : LA} {sg : List (Nat × Nat)} (ho : ∀ a' r', (a', r') ∈ h → HOk (cx (nuX (nuEs_1 s T i b) (rX (roEs_1 s T i b) X)) (nuX_one (nuL_one (l := nuEs_1 s T i b) rfl)) 1 laidE laidE_stab) a' r') (hy : InvEs s T y) (lt : muEs s T y < muEs s T (1, i, b)) (ht : ThOk (cx (nuX (nuEs_1 s T i b) (rX (roEs_1 s T i b) X)) (nuX_one (nuL_one (l := nuEs_1 s T i b) rfl)) 1 laidE laidE_stab) (DEs s T y X) th) (run : RNEs_1 h .normal th sg 9 (epEs y) (hpEs y) = true) : RHEs s T E' x' e' h' (1, i, b) X :=
  RoundH.next (tb := tbl h) (L := []) (f := 2000) y ((tabkOk _ _).hyps ho) (LpOk.nil _) rfl hy lt ht run
theorem lvEs_1 (s T : LB) (i : Int) (b : LB) {X : Nat → Value} {h : LK} {th : LA} {sg : List (Nat × Nat)} (hne : exB x' .normal = false) (ho : ∀ a' r', (a', r') ∈ h → HOk (cx (nuX (nuEs_1 s T i b) (rX (roEs_1 s T i b) X)) (nuX_one (nuL_one (l := nuEs_1 s T i b) rfl)) 1 laidE laidE_stab) a' r') (ht : ThOk (cx (nuX (nuEs_1 s T i b) (rX (roEs_1 s T i b) X)) (nuX_one (nuL_one (l := nuEs_1 s T i b) rfl)) 1 laidE laidE_stab) E' th) (run : RNEs_1 h x' th sg 14 e' h' = true) : RHEs s T E' x' e' h' (1, i, b) X :=
  RoundH.leave (tb := tbl h) (L := []) (f := 2000) ((tabkOk _ _).hyps ho) (LpOk.nil _) rfl hne ht run
def hyEs_p0 : LK := [(.bytes [], .x 3), (.bin .lss (.x 2) (.x 1), .b false)]
theorem runEs_p0 : RNEs_0 hyEs_p0 (.exit 0) [] [] 14 [(3, .p 7 0)] [(7, .b ⟨92, .l [.nilp, .nils], 0, 0, 0, false, false⟩)] = true := by kernel_rfl
def hyEs_p1 : LK := [(.bytes [], .x 4), (.bin .lss (.x 2) (.x 1), .b true), (.idx (.x 0) (.x 2), .x 5), (.call 61 [.x 5], .b true), (.app (.x 4) [.x 5], .x 6), (.byt (.x 6) (.i .i64 (.ofNat 0)), .x 7), (.fit (.x 6), .b true), (.bin .add (.x 2) (.i .i64 (.ofNat 1)), .x 8)]
theorem runEs_p1 : RNEs_0 hyEs_p1 .normal [(0, .x 0), (1, .x 1), (2, .x 8), (3, .x 6)] [(8, 10)] 9 epEs_1 hpEs_1 = true := by kernel_rfl
theorem nxEs_p1 (s T : LB) (c0 : s.length ≤ 400) (i : Int) (b : LB) (X : Nat → Value) (hI : InvEs s T (0, i, b)) (h0 : i < (s.length : Int)) (h1 : tb8 MAln (bt s (Int.toNat (i))) = true) : RHEs s T E' x' e' h' (0, i, b) X := by
  obtain ⟨i0, i1, i2, i3, i4, i5, i6, i7, it⟩ := unIEs s T 0 i b hI
  have := bt_lo s (Int.toNat (i)); have := bt_hi s (Int.toNat (i))
  refine stEs_0 s T i b (h := hyEs_p1) (1, (i + 1), [u8 (bt s (Int.toNat (i)))]) ?_ (mkIEs s T 1 (i + 1) ([u8 (bt s (Int.toNat (i)))]) ⟨by omega, by omega, by rw [← i2, i4 rfl, esc_step i0 (by assumption), escB_aln (by assumption)]; simp, by simp only [List.length_append, List.length_cons, List.length_nil]; omega, fun h => by omega, fun _ => by simp, fun h => by omega, fun _ => by omega, by omega⟩) (by show s.length - (i + 1).toNat < s.length - i.toNat; omega) (thXv (v := St' s) rfl rfl (thXv (v := .int .i64 ((s.length : Int))) rfl rfl (thXi (b := ((i + 1))) rfl rfl (by omega) (thXv (v := St' ([u8 (bt s (Int.toNat (i)))])) rfl rfl (thNil))))) runEs_p1
  unfold hyEs_p1
  exact hc (kBytesB (bs := ([] : LB)) .nil (denX rfl)) <|
   hc (ltT rfl rfl (by omega)) <|
   hc (ixV rfl rfl rfl (by omega)) <|
   hc (hokAln (isX rfl) (by omega) (by omega) (denBT (by assumption))) <|
   hc (kApp (bs := [u8 (bt s (Int.toNat (i)))]) (isX rfl) (.cons (isB8 (isX rfl) (by omega) (by omega)) .nil) (denX rfl) (by first | rfl | (simp; done))) <|
   hc (kByt (i := 0) (isX rfl) (isZ (m := 0) rfl) (denX rfl) rfl (by simp) (bt_at rfl (by omega) (by omega))) <|
   hc (kFit (isX rfl) (by first | omega | (simp <;> omega))) <|
   hc (adC rfl rfl (by omega)) <|
   hnil
def hyEs_p2 : LK := [(.bytes [], .x 9), (.bin .lss (.x 2) (.x 1), .b true), (.idx (.x 0) (.x 2), .x 10), (.call 61 [.x 10], .b false), (.call 62 [.s 5 203983629869, .x 10], .x 11), (.bin .geq (.x 11) (.i .i64 (.ofNat 0)), .b true), (.app (.x 9) [.x 10], .x 12), (.byt (.x 12) (.i .i64 (.ofNat 0)), .x 13), (.fit (.x 12), .b true), (.bin .add (.x 2) (.i .i64 (.ofNat 1)), .x 14)]
theorem runEs_p2 : RNEs_0 hyEs_p2 .normal [(0, .x 0), (1, .x 1), (2, .x 14), (3, .x 12)] [(8, 10)] 9 epEs_1 hpEs_1 = true := by kernel_rfl
theorem nxEs_p2 (s T : LB) (c0 : s.length ≤ 400) (i : Int) (b : LB) (X : Nat → Value) (hI : InvEs s T (0, i, b)) (h0 : i < (s.length : Int)) (h1 : ¬ (tb8 MAln (bt s (Int.toNat (i))) = true)) (h2 : 0 ≤ vIxp (bt s (Int.toNat (i)))) : RHEs s T E' x' e' h' (0, i, b) X := by
  obtain ⟨i0, i1, i2, i3, i4, i5, i6, i7, it⟩ := unIEs s T 0 i b hI
  have := bt_lo s (Int.toNat (i)); have := bt_hi s (Int.toNat (i))
  have := rIxp (c := bt s (Int.toNat (i))) (by omega) (by omega)
  refine stEs_0 s T i b (h := hyEs_p2) (1, (i + 1), [u8 (bt s (Int.toNat (i)))]) ?_ (mkIEs s T 1 (i + 1) ([u8 (bt s (Int.toNat (i)))]) ⟨by omega, by omega, by rw [← i2, i4 rfl, esc_step i0 (by assumption), escB_ix (by assumption)]; simp, by simp only [List.length_append, List.length_cons, List.length_nil]; omega, fun h => by omega, fun _ => by simp, fun h => by omega, fun _ => by omega, by omega⟩) (by show s.length - (i + 1).toNat < s.length - i.toNat; omega) (thXv (v := St' s) rfl rfl (thXv (v := .int .i64 ((s.length : Int))) rfl rfl (thXi (b := ((i + 1))) rfl rfl (by omega) (thXv (v := St' ([u8 (bt s (Int.toNat (i)))])) rfl rfl (thNil))))) runEs_p2
  unfold hyEs_p2
  exact hc (kBytesB (bs := ([] : LB)) .nil (denX rfl)) <|
   hc (ltT rfl rfl (by omega)) <|
   hc (ixV rfl rfl rfl (by omega)) <|
   hc (hokAln (isX rfl) (by omega) (by omega) (denBF (by assumption))) <|
   hc (hokIxp (isSx (l := [u8 45, u8 46, u8 95, u8 126, u8 47]) 5 203983629869 rfl) (isX rfl) (by omega) (by omega) (denX rfl)) <|
   hc (gecT rfl (by omega)) <|
   hc (kApp (bs := [u8 (bt s (Int.toNat (i)))]) (isX rfl) (.cons (isB8 (isX rfl) (by omega) (by omega)) .nil) (denX rfl) (by first | rfl | (simp; done))) <|
   hc (kByt (i := 0) (isX rfl) (isZ (m := 0) rfl) (denX rfl) rfl (by simp) (bt_at rfl (by omega) (by omega))) <|
   hc (kFit (isX rfl) (by first | omega | (simp <;> omega))) <|
   hc (adC rfl rfl (by omega)) <|
   hnil
def hyEs_p3 : LK := [(.bytes [], .x 15), (.bin .lss (.x 2) (.x 1), .b true), (.idx (.x 0) (.x 2), .x 16), (.call 61 [.x 16], .b false), (.call 62 [.s 5 203983629869, .x 16], .x 17), (.bin .geq (.x 17) (.i .i64 (.ofNat 0)), .b false), (.bin .shr (.x 16) (.i .u64 (.ofNat 4)), .x 18), (.bin .add (.x 18) (.i .u8 (.ofNat 1)), .x 19), (.sub (.s 16 93405612720827812017303888595717861680) (some (.x 18)) (some (.x 19)), .x 20), (.bin .add (.s 1 37) (.x 20), .x 21), (.bin .and (.x 16) (.i .u8 (.ofNat 15)), .x 22), (.bin .add (.x 22) (.i .u8 (.ofNat 1)), .x 23), (.sub (.s 16 93405612720827812017303888595717861680) (some (.x 22)) (some (.x 23)), .x 24), (.bin .add (.x 21) (.x 24), .x 25), (.byt (.x 25) (.i .i64 (.ofNat 0)), .i .u8 (.ofNat 37)), (.fit (.x 25), .b true), (.len (.x 25), .i .i64 (.ofNat 3)), (.bin .add (.x 2) (.i .i64 (.ofNat 1)), .x 26)]
theorem runEs_p3 : RNEs_0 hyEs_p3 .normal [(0, .x 0), (1, .x 1), (2, .x 26), (3, .x 25)] [(8, 9)] 9 epEs_1 hpEs_1 = true := by kernel_rfl
theorem nxEs_p3 (s T : LB) (c0 : s.length ≤ 400) (i : Int) (b : LB) (X : Nat → Value) (hI : InvEs s T (0, i, b)) (h0 : i < (s.length : Int)) (h1 : ¬ (tb8 MAln (bt s (Int.toNat (i))) = true)) (h2 : ¬ (0 ≤ vIxp (bt s (Int.toNat (i))))) : RHEs s T E' x' e' h' (0, i, b) X := by
  obtain ⟨i0, i1, i2, i3, i4, i5, i6, i7, it⟩ := unIEs s T 0 i b hI
  have := bt_lo s (Int.toNat (i)); have := bt_hi s (Int.toNat (i))
  have := rIxp (c := bt s (Int.toNat (i))) (by omega) (by omega)
  have := hxU_lo (d := (bt s (Int.toNat (i))) / 16) (by omega) (by omega)
  have := hxU_lo (d := (bt s (Int.toNat (i))) % 16) (by omega) (by omega)
  refine stEs_0 s T i b (h := hyEs_p3) (1, (i + 1), [u8 37, u8 (hxU ((bt s (Int.toNat (i))) / 16)), u8 (hxU ((bt s (Int.toNat (i))) % 16))]) ?_ (mkIEs s T 1 (i + 1) ([u8 37, u8 (hxU ((bt s (Int.toNat (i))) / 16)), u8 (hxU ((bt s (Int.toNat (i))) % 16))]) ⟨by omega, by omega, by rw [← i2, i4 rfl, esc_step i0 (by assumption), escB_no (by assumption) (by assumption)]; simp, by simp only [List.length_append, List.length_cons, List.length_nil]; omega, fun h => by omega, fun _ => by simp, fun h => by omega, fun _ => by omega, by omega⟩) (by show s.length - (i + 1).toNat < s.length - i.toNat; omega) (thXv (v := St' s) rfl rfl (thXv (v := .int .i64 ((s.length : Int))) rfl rfl (thXi (b := ((i + 1))) rfl rfl (by omega) (thXv (v := St' ([u8 37, u8 (hxU ((bt s (Int.toNat (i))) / 16)), u8 (hxU ((bt s (Int.toNat (i))) % 16))])) rfl rfl (thNil))))) runEs_p3
  unfold hyEs_p3
  exact hc (kBytesB (bs := ([] : LB)) .nil (denX rfl)) <|
   hc (ltT rfl rfl (by omega)) <|
   hc (ixV rfl rfl rfl (by omega)) <|
   hc (hokAln (isX rfl) (by omega) (by omega) (denBF (by assumption))) <|
   hc (hokIxp (isSx (l := [u8 45, u8 46, u8 95, u8 126, u8 47]) 5 203983629869 rfl) (isX rfl) (by omega) (by omega) (denX rfl)) <|
   hc (gecF rfl (by omega)) <|
   hc (kShrM 4 16 rfl (isX rfl) (isZ (m := 4) rfl) (denX rfl) rfl (by decide) (by omega) rfl) <|
   hc (kAdd (isX rfl) (isZ (m := 1) rfl) (denX rfl) (by omega) (fU8 (by omega) (by omega))) <|
   hc (kMid (P := (bt s (Int.toNat (i))) / 16) (Q := ((bt s (Int.toNat (i))) / 16) + 1) (isSx (l := [u8 48, u8 49, u8 50, u8 51, u8 52, u8 53, u8 54, u8 55, u8 56, u8 57, u8 65, u8 66, u8 67, u8 68, u8 69, u8 70]) 16 93405612720827812017303888595717861680 rfl) (.inr ⟨_, _, rfl, (isX rfl)⟩) (.inr ⟨_, _, rfl, (isX rfl)⟩) (by omega) (by omega) (by show _ ≤ (16 : Int); omega) (denX (congrArg (fun l => St' l) (hxU_sub (by omega) (by omega) (by omega))))) <|
   hc (kCat (isSx (l := [u8 37]) 1 37 rfl) (isX rfl) (denX rfl) (by first | rfl | (simp; done)) (by first | omega | (simp <;> omega))) <|
   hc (kAndM 4 16 rfl (isX rfl) (isZ (m := 15) rfl) (denX rfl) (by omega) (fU8 (by omega) (by omega)) (fU8 (by omega) (by omega)) rfl rfl) <|
   hc (kAdd (isX rfl) (isZ (m := 1) rfl) (denX rfl) (by omega) (fU8 (by omega) (by omega))) <|
   hc (kMid (P := (bt s (Int.toNat (i))) % 16) (Q := ((bt s (Int.toNat (i))) % 16) + 1) (isSx (l := [u8 48, u8 49, u8 50, u8 51, u8 52, u8 53, u8 54, u8 55, u8 56, u8 57, u8 65, u8 66, u8 67, u8 68, u8 69, u8 70]) 16 93405612720827812017303888595717861680 rfl) (.inr ⟨_, _, rfl, (isX rfl)⟩) (.inr ⟨_, _, rfl, (isX rfl)⟩) (by omega) (by omega) (by show _ ≤ (16 : Int); omega) (denX (congrArg (fun l => St' l) (hxU_sub (by omega) (by omega) (by omega))))) <|
   hc (kCat (isX rfl) (isX rfl) (denX rfl) (by first | rfl | (simp; done)) (by first | omega | (simp <;> omega))) <|
   hc (kByt (i := 0) (isX rfl) (isZ (m := 0) rfl) (denZ (m := 37) rfl) (by omega) (by simp) (bt_at rfl (by omega) (by omega))) <|
   hc (kFit (isX rfl) (by first | omega | (simp <;> omega))) <|
   hc (kLenE (isX rfl) (denZ (m := 3) rfl) rfl) <|
   hc (adC rfl rfl (by omega)) <|
   hnil
def hyEs_p4 : LK := [(.bytes [], .x 4), (.bin .lss (.x 2) (.x 1), .b false)]
theorem runEs_p4 : RNEs_1 hyEs_p4 (.exit 0) [(0, .x 3)] [(8, 8)] 14 [(3, .p 7 0)] [(7, .b ⟨92, .l [.p 7 0, .sy 8], 0, 0, 0, false, false⟩), (8, .t 0 5)] = true := by kernel_rfl
def hyEs_p5 : LK := [(.bytes [], .x 5), (.bin .lss (.x 2) (.x 1), .b true), (.idx (.x 0) (.x 2), .x 6), (.call 61 [.x 6], .b true), (.app (.x 3) [.x 6], .x 7), (.fit (.x 7), .b true), (.bin .add (.x 2) (.i .i64 (.ofNat 1)), .x 8)]
theorem runEs_p5 : RNEs_1 hyEs_p5 .normal [(0, .x 0), (1, .x 1), (2, .x 8), (3, .x 7)] [(8, 10)] 9 epEs_1 hpEs_1 = true := by kernel_rfl
theorem nxEs_p5 (s T : LB) (c0 : s.length ≤ 400) (i : Int) (b : LB) (X : Nat → Value) (hI : InvEs s T (1, i, b)) (h0 : i < (s.length : Int)) (h1 : tb8 MAln (bt s (Int.toNat (i))) = true) : RHEs s T E' x' e' h' (1, i, b) X := by
  obtain ⟨i0, i1, i2, i3, i4, i5, i6, i7, it⟩ := unIEs s T 1 i b hI
  have := bt_lo s (Int.toNat (i)); have := bt_hi s (Int.toNat (i))
  refine stEs_1 s T i b (h := hyEs_p5) (1, (i + 1), (b ++ [u8 (bt s (Int.toNat (i)))])) ?_ (mkIEs s T 1 (i + 1) (b ++ [u8 (bt s (Int.toNat (i)))]) ⟨by omega, by omega, by rw [← i2, esc_step i0 (by assumption), escB_aln (by assumption)]; simp, by simp only [List.length_append, List.length_cons, List.length_nil]; omega, fun h => by omega, fun _ => by simp, fun h => by omega, fun _ => by omega, by omega⟩) (by show s.length - (i + 1).toNat < s.length - i.toNat; omega) (thXv (v := St' s) rfl rfl (thXv (v := .int .i64 ((s.length : Int))) rfl rfl (thXi (b := ((i + 1))) rfl rfl (by omega) (thXv (v := St' (b ++ [u8 (bt s (Int.toNat (i)))])) rfl rfl (thNil))))) runEs_p5
  unfold hyEs_p5
  exact hc (kBytesB (bs := ([] : LB)) .nil (denX rfl)) <|
   hc (ltT rfl rfl (by omega)) <|
   hc (ixV rfl rfl rfl (by omega)) <|
   hc (hokAln (isX rfl) (by omega) (by omega) (denBT (by assumption))) <|
   hc (kApp (bs := [u8 (bt s (Int.toNat (i)))]) (isX rfl) (.cons (isB8 (isX rfl) (by omega) (by omega)) .nil) (denX rfl) (by first | rfl | (simp; done))) <|
   hc (kFit (isX rfl) (by first | omega | (simp <;> omega))) <|
   hc (adC rfl rfl (by omega)) <|
   hnil
def hyEs_p6 : LK := [(.bytes [], .x 9), (.bin .lss (.x 2) (.x 1), .b true), (.idx (.x 0) (.x 2), .x 10), (.call 61 [.x 10], .b false), (.call 62 [.s 5 203983629869, .x 10], .x 11), (.bin .geq (.x 11) (.i .i64 (.ofNat 0)), .b true), (.app (.x 3) [.x 10], .x 12), (.fit (.x 12), .b true), (.bin .add (.x 2) (.i .i64 (.ofNat 1)), .x 13)]
theorem runEs_p6 : RNEs_1 hyEs_p6 .normal [(0, .x 0), (1, .x 1), (2, .x 13), (3, .x 12)] [(8, 10)] 9 epEs_1 hpEs_1 = true := by kernel_rfl
theorem nxEs_p6 (s T : LB) (c0 : s.length ≤ 400) (i : Int) (b : LB) (X : Nat → Value) (hI : InvEs s T (1, i, b)) (h0 : i < (s.length : Int)) (h1 : ¬ (tb8 MAln (bt s (Int.toNat (i))) = true)) (h2 : 0 ≤ vIxp (bt s (Int.toNat (i)))) : RHEs s T E' x' e' h' (1, i, b) X := by
  obtain ⟨i0, i1, i2, i3, i4, i5, i6, i7, it⟩ := unIEs s T 1 i b hI
  have := bt_lo s (Int.toNat (i)); have := bt_hi s (Int.toNat (i))
  have := rIxp (c := bt s (Int.toNat (i))) (by omega) (by omega)
  refine stEs_1 s T i b (h := hyEs_p6) (1, (i + 1), (b ++ [u8 (bt s (Int.toNat (i)))])) ?_ (mkIEs s T 1 (i + 1) (b ++ [u8 (bt s (Int.toNat (i)))]) ⟨by omega, by omega, by rw [← i2, esc_step i0 (by assumption), escB_ix (by assumption)]; simp, by simp only [List.length_append, List.length_cons, List.length_nil]; omega, fun h => by omega, fun _ => by simp, fun h => by omega, fun _ => by omega, by omega⟩) (by show s.length - (i + 1).toNat < s.length - i.toNat; omega) (thXv (v := St' s) rfl rfl (thXv (v := .int .i64 ((s.length : Int))) rfl rfl (thXi (b := ((i + 1))) rfl rfl (by omega) (thXv (v := St' (b ++ [u8 (bt s (Int.toNat (i)))])) rfl rfl (thNil))))) runEs_p6
  unfold hyEs_p6
  exact hc (kBytesB (bs := ([] : LB)) .nil (denX rfl)) <|
   hc (ltT rfl rfl (by omega)) <|
   hc (ixV rfl rfl rfl (by omega)) <|
   hc (hokAln (isX rfl) (by omega) (by omega) (denBF (by assumption))) <|
   hc (hokIxp (isSx (l := [u8 45, u8 46, u8 95, u8 126, u8 47]) 5 203983629869 rfl) (isX rfl) (by omega) (by omega) (denX rfl)) <|
   hc (gecT rfl (by omega)) <|
   hc (kApp (bs := [u8 (bt s (Int.toNat (i)))]) (isX rfl) (.cons (isB8 (isX rfl) (by omega) (by omega)) .nil) (denX rfl) (by first | rfl | (simp; done))) <|
   hc (kFit (isX rfl) (by first | omega | (simp <;> omega))) <|
   hc (adC rfl rfl (by omega)) <|
   hnil
def hyEs_p7 : LK := [(.bytes [], .x 14), (.bin .lss (.x 2) (.x 1), .b true), (.idx (.x 0) (.x 2), .x 15), (.call 61 [.x 15], .b false), (.call 62 [.s 5 203983629869, .x 15], .x 16), (.bin .geq (.x 16) (.i .i64 (.ofNat 0)), .b false), (.bin .shr (.x 15) (.i .u64 (.ofNat 4)), .x 17), (.bin .add (.x 17) (.i .u8 (.ofNat 1)), .x 18), (.sub (.s 16 93405612720827812017303888595717861680) (some (.x 17)) (some (.x 18)), .x 19), (.bin .add (.s 1 37) (.x 19), .x 20), (.bin .and (.x 15) (.i .u8 (.ofNat 15)), .x 21), (.bin .add (.x 21) (.i .u8 (.ofNat 1)), .x 22), (.sub (.s 16 93405612720827812017303888595717861680) (some (.x 21)) (some (.x 22)), .x 23), (.bin .add (.x 20) (.x 23), .x 24), (.bin .add (.x 3) (.x 24), .x 25), (.fit (.x 25), .b true), (.len (.x 24), .i .i64 (.ofNat 3)), (.bin .add (.x 2) (.i .i64 (.ofNat 1)), .x 26)]
theorem runEs_p7 : RNEs_1 hyEs_p7 .normal [(0, .x 0), (1, .x 1), (2, .x 26), (3, .x 25)] [(8, 9)] 9 epEs_1 hpEs_1 = true := by kernel_rfl
theorem nxEs_p7 (s T : LB) (c0 : s.length ≤ 400) (i : Int) (b : LB) (X : Nat → Value) (hI : InvEs s T (1, i, b)) (h0 : i < (s.length : Int)) (h1 : ¬ (tb8 MAln (bt s (Int.toNat (i))) = true)) (h2 : ¬ (0 ≤ vIxp (bt s (Int.toNat (i))))) : RHEs s T E' x' e' h' (1, i, b) X := by
  obtain ⟨i0, i1, i2, i3, i4, i5, i6, i7, it⟩ := unIEs s T 1 i b hI
  have := bt_lo s (Int.toNat (i)); have := bt_hi s (Int.toNat (i))
  have := rIxp (c := bt s (Int.toNat (i))) (by omega) (by omega)
  have := hxU_lo (d := (bt s (Int.toNat (i))) / 16) (by omega) (by omega)
  have := hxU_lo (d := (bt s (Int.toNat (i))) % 16) (by omega) (by omega)
  refine stEs_1 s T i b (h := hyEs_p7) (1, (i + 1), (b ++ [u8 37, u8 (hxU ((bt s (Int.toNat (i))) / 16)), u8 (hxU ((bt s (Int.toNat (i))) % 16))])) ?_ (mkIEs s T 1 (i + 1) (b ++ [u8 37, u8 (hxU ((bt s (Int.toNat (i))) / 16)), u8 (hxU ((bt s (Int.toNat (i))) % 16))]) ⟨by omega, by omega, by rw [← i2, esc_step i0 (by assumption), escB_no (by assumption) (by assumption)]; simp, by simp only [List.length_append, List.length_cons, List.length_nil]; omega, fun h => by omega, fun _ => by simp, fun h => by omega, fun _ => by omega, by omega⟩) (by show s.length - (i + 1).toNat < s.length - i.toNat; omega) (thXv (v := St' s) rfl rfl (thXv (v := .int .i64 ((s.length : Int))) rfl rfl (thXi (b := ((i + 1))) rfl rfl (by omega) (thXv (v := St' (b ++ [u8 37, u8 (hxU ((bt s (Int.toNat (i))) / 16)), u8 (hxU ((bt s (Int.toNat (i))) % 16))])) rfl rfl (thNil))))) runEs_p7
  unfold hyEs_p7
  exact hc (kBytesB (bs := ([] : LB)) .nil (denX rfl)) <|
   hc (ltT rfl rfl (by omega)) <|
   hc (ixV rfl rfl rfl (by omega)) <|
   hc (hokAln (isX rfl) (by omega) (by omega) (denBF (by assumption))) <|
   hc (hokIxp (isSx (l := [u8 45, u8 46, u8 95, u8 126, u8 47]) 5 203983629869 rfl) (isX rfl) (by omega) (by omega) (denX rfl)) <|
   hc (gecF rfl (by omega)) <|
   hc (kShrM 4 16 rfl (isX rfl) (isZ (m := 4) rfl) (denX rfl) rfl (by decide) (by omega) rfl) <|
   hc (kAdd (isX rfl) (isZ (m := 1) rfl) (denX rfl) (by omega) (fU8 (by omega) (by omega))) <|
   hc (kMid (P := (bt s (Int.toNat (i))) / 16) (Q := ((bt s (Int.toNat (i))) / 16) + 1) (isSx (l := [u8 48, u8 49, u8 50, u8 51, u8 52, u8 53, u8 54, u8 55, u8 56, u8 57, u8 65, u8 66, u8 67, u8 68, u8 69, u8 70]) 16 93405612720827812017303888595717861680 rfl) (.inr ⟨_, _, rfl, (isX rfl)⟩) (.inr ⟨_, _, rfl, (isX rfl)⟩) (by omega) (by omega) (by show _ ≤ (16 : Int); omega) (denX (congrArg (fun l => St' l) (hxU_sub (by omega) (by omega) (by omega))))) <|
   hc (kCat (isSx (l := [u8 37]) 1 37 rfl) (isX rfl) (denX rfl) (by first | rfl | (simp; done)) (by first | omega | (simp <;> omega))) <|
   hc (kAndM 4 16 rfl (isX rfl) (isZ (m := 15) rfl) (denX rfl) (by omega) (fU8 (by omega) (by omega)) (fU8 (by omega) (by omega)) rfl rfl) <|
   hc (kAdd (isX rfl) (isZ (m := 1) rfl) (denX rfl) (by omega) (fU8 (by omega) (by omega))) <|
   hc (kMid (P := (bt s (Int.toNat (i))) % 16) (Q := ((bt s (Int.toNat (i))) % 16) + 1) (isSx (l := [u8 48, u8 49, u8 50, u8 51, u8 52, u8 53, u8 54, u8 55, u8 56, u8 57, u8 65, u8 66, u8 67, u8 68, u8 69, u8 70]) 16 93405612720827812017303888595717861680 rfl) (.inr ⟨_, _, rfl, (isX rfl)⟩) (.inr ⟨_, _, rfl, (isX rfl)⟩) (by omega) (by omega) (by show _ ≤ (16 : Int); omega) (denX (congrArg (fun l => St' l) (hxU_sub (by omega) (by omega) (by omega))))) <|
   hc (kCat (isX rfl) (isX rfl) (denX rfl) (by first | rfl | (simp; done)) (by first | omega | (simp <;> omega))) <|
   hc (kCat (isX rfl) (isX rfl) (denX rfl) (by first | rfl | (simp; done)) (by first | omega | (simp <;> omega))) <|
   hc (kFit (isX rfl) (by first | omega | (simp <;> omega))) <|
   hc (kLenE (isX rfl) (denZ (m := 3) rfl) rfl) <|
   hc (adC rfl rfl (by omega)) <|
   hnil
def nuEEs_0 (s T : LB) : List Value := []
def roEEs_0 (s T : LB) : List Value := []
noncomputable def EEs_0 (s T : LB) : Cx := cx (nuX (nuEEs_0 s T) (rX (roEEs_0 s T) (fun _ => .bool true))) (nuX_one (nuL_one (l := nuEEs_0 s T) rfl)) 1 laidE laidE_stab
theorem roundsEs_0 (s T : LB) (c0 : s.length ≤ 400) (x0 : s.length = 0) (st : Nat × Int × LB) (X : Nat → Value) (hI : InvEs s T st) : RHEs s T (EEs_0 s T) (.exit 0) [(3, .p 7 0)] [(7, .b ⟨92, .l [.nilp, .nils], 0, 0, 0, false, false⟩)] st X := by
  obtain ⟨tag, i, b⟩ := st
  have hI0 := hI
  obtain ⟨i0, i1, i2, i3, i4, i5, i6, i7, it⟩ := unIEs s T tag i b hI
  rcases (show tag = 0 ∨ tag = 1 from by omega) with rfl | rfl
  · skip
    by_cases h0 : i < (s.length : Int)
    · by_cases h1 : tb8 MAln (bt s (Int.toNat (i))) = true
      · exact nxEs_p1 s T c0 i b X hI0 h0 h1
      · by_cases h2 : 0 ≤ vIxp (bt s (Int.toNat (i)))
        · exact nxEs_p2 s T c0 i b X hI0 h0 h1 h2
        · exact nxEs_p3 s T c0 i b X hI0 h0 h1 h2
    · skip
      refine lvEs_0 s T i b (h := hyEs_p0) rfl ?_ (thNil) runEs_p0
      unfold hyEs_p0
      exact hc (kBytesB (bs := ([] : LB)) .nil (denX rfl)) <|
       hc (ltF rfl rfl (by omega)) <|
       hnil
  · skip
    by_cases h0 : i < (s.length : Int)
    · by_cases h1 : tb8 MAln (bt s (Int.toNat (i))) = true
      · exact nxEs_p5 s T c0 i b X hI0 h0 h1
      · by_cases h2 : 0 ≤ vIxp (bt s (Int.toNat (i)))
        · exact nxEs_p6 s T c0 i b X hI0 h0 h1 h2
        · exact nxEs_p7 s T c0 i b X hI0 h0 h1 h2
    · exfalso; omega
theorem lfOkEs_0 {l : LF} {h : LH} (s T : LB) (c0 : s.length ≤ 400) (x0 : s.length = 0) (st : Nat × Int × LB) (hI : InvEs s T st) (hl : l.hp = some h) (hs : lfSame l h 40 keepEs (.exit 0) 7 8 14 = true) {th0 : LA} {sg0 : List (Nat × Nat)} (hth0 : ∀ X, ThOk (cx nu one 1 laidE laidE_stab) (DEs s T st X) th0) (h0 : startOk l h 40 8 9 th0 sg0 (epEs st) (hpEs st) = true) {thx : LA} (hthx : ThOk (EEs_0 s T) (cx nu one 1 laidE laidE_stab) thx) (hx : exitOk l h 40 8 14 thx [(3, .p 7 0)] [(7, .b ⟨92, .l [.nilp, .nils], 0, 0, 0, false, false⟩)] = true) : LfOk (cx nu one 1 laidE laidE_stab) bodyEs l :=
  lfOkX (E := EEs_0 s T) (InvEs s T) (muEs s T) (DEs s T) (fun _ _ => rfl) (fun _ _ => rfl) (fun _ _ => rfl) (fun st X t ht => nuX_keep.trans (rX_keep ((by decide : ∀ t, t ∈ keepEs → t < 1000000) t ht))) rfl rfl rfl hl hs ebEs rfl rfl st hI hth0 h0 hthx hx (roundsEs_0 s T c0 x0)
def nuEEs_1 (s T : LB) : List Value := [St' T]
def roEEs_1 (s T : LB) : List Value := []
noncomputable def EEs_1 (s T : LB) : Cx := cx (nuX (nuEEs_1 s T) (rX (roEEs_1 s T) (fun _ => .bool true))) (nuX_one (nuL_one (l := nuEEs_1 s T) rfl)) 1 laidE laidE_stab
theorem roundsEs_1 (s T : LB) (c0 : s.length ≤ 400) (x0 : ¬ s.length = 0) (st : Nat × Int × LB) (X : Nat → Value) (hI : InvEs s T st) : RHEs s T (EEs_1 s T) (.exit 0) [(3, .p 7 0)] [(7, .b ⟨92, .l [.p 7 0, .sy 8], 0, 0, 0, false, false⟩), (8, .t 0 5)] st X := by
  obtain ⟨tag, i, b⟩ := st
  have hI0 := hI
  obtain ⟨i0, i1, i2, i3, i4, i5, i6, i7, it⟩ := unIEs s T tag i b hI
  rcases (show tag = 0 ∨ tag = 1 from by omega) with rfl | rfl
  · skip
    by_cases h0 : i < (s.length : Int)
    · by_cases h1 : tb8 MAln (bt s (Int.toNat (i))) = true
      · exact nxEs_p1 s T c0 i b X hI0 h0 h1
      · by_cases h2 : 0 ≤ vIxp (bt s (Int.toNat (i)))
        · exact nxEs_p2 s T c0 i b X hI0 h0 h1 h2
        · exact nxEs_p3 s T c0 i b X hI0 h0 h1 h2
    · exfalso; omega
  · skip
    by_cases h0 : i < (s.length : Int)
    · by_cases h1 : tb8 MAln (bt s (Int.toNat (i))) = true
      · exact nxEs_p5 s T c0 i b X hI0 h0 h1
      · by_cases h2 : 0 ≤ vIxp (bt s (Int.toNat (i)))
        · exact nxEs_p6 s T c0 i b X hI0 h0 h1 h2
        · exact nxEs_p7 s T c0 i b X hI0 h0 h1 h2
    · skip
      refine lvEs_1 s T i b (h := hyEs_p4) rfl ?_ (thXe (v := St' b) (u := St' T) rfl rfl (congrArg (fun l => St' l) (by rw [← i2, esc_end (by assumption)]; simp)) (thNil)) runEs_p4
      unfold hyEs_p4
      exact hc (kBytesB (bs := ([] : LB)) .nil (denX rfl)) <|
       hc (ltF rfl rfl (by omega)) <|
       hnil
theorem lfOkEs_1 {l : LF} {h : LH} (s T : LB) (c0 : s.length ≤ 400) (x0 : ¬ s.length = 0) (st : Nat × Int × LB) (hI : InvEs s T st) (hl : l.hp = some h) (hs : lfSame l h 40 keepEs (.exit 0) 7 8 14 = true) {th0 : LA} {sg0 : List (Nat × Nat)} (hth0 : ∀ X, ThOk (cx nu one 1 laidE laidE_stab) (DEs s T st X) th0) (h0 : startOk l h 40 8 9 th0 sg0 (epEs st) (hpEs st) = true) {thx : LA} (hthx : ThOk (EEs_1 s T) (cx nu one 1 laidE laidE_stab) thx) (hx : exitOk l h 40 8 14 thx [(3, .p 7 0)] [(7, .b ⟨92, .l [.p 7 0, .sy 8], 0, 0, 0, false, false⟩), (8, .t 0 5)] = true) : LfOk (cx nu one 1 laidE laidE_stab) bodyEs l :=
  lfOkX (E := EEs_1 s T) (InvEs s T) (muEs s T) (DEs s T) (fun _ _ => rfl) (fun _ _ => rfl) (fun _ _ => rfl) (fun st X t ht => nuX_keep.trans (rX_keep ((by decide : ∀ t, t ∈ keepEs → t < 1000000) t ht))) rfl rfl rfl hl hs ebEs rfl rfl st hI hth0 h0 hthx hx (roundsEs_1 s T c0 x0)
noncomputable def fi27 : FI := (tabk.fn.get 27).getD default
theorem fi27_at : tabk.fn.get 27 = some fi27 := by kernel_rfl
theorem fi27_body : fi27.body = some (Tryd.f27.body.getD .skip) := by kernel_rfl
theorem fiB27 : fi27.body.isSome = true := by rw [fi27_body]; rfl
def hyEscape_0 : LK := [(.len (.x 0), .x 1)]
def lh24 : LH := ⟨7, 8, 14, [(7, .b ⟨92, .l [.nilp, .nils], 0, 0, 0, false, false⟩)], [(7, .b ⟨92, .l [.nilp, .nils], 0, 0, 0, false, false⟩)]⟩
def lf24 : LF := ⟨3, 40, [(0, .x 0), (3, .p 7 0), (6, .x 0), (7, .x 1), (8, .i .i64 (.ofNat 0))], [2], (.exit 0), [(3, .p 7 0)], some lh24⟩
noncomputable def tabEscape_0 : Tab := addLps ({ tabk with hyp := hyEscape_0 }) 27 fi27 [lf24]
theorem runEscape_0 (e : Nat) : okA (call tabEscape_0 9000 27 [.x 0] ⟨H0 e , 7, 0, 0⟩) (.s 0 0) = true := by kernel_rfl
def nuEscape_0 (s : LB) : List Value := [St' s, .int .i64 ((s.length : Int))]
theorem pathEscape_0 (s : LB) (b0 : s.length ≤ 9223372036854775807) (p0 : s.length ≤ 400) (h0 : s.length = 0) (w : World) (hl : laidE w) : CwR 27 #[St' s] w (St' ([] : LB)) := by
  have := escS_len s
  have ho : ∀ k r, (k, r) ∈ hyEscape_0 → HOk (cx (nuL (nuEscape_0 s)) (fun j _ => nuL_one (l := nuEscape_0 s) rfl j) 1 laidE laidE_stab) k r := by
    unfold hyEscape_0
    exact hc (lnV rfl rfl (by omega)) <|
     hnil
  refine runC (tb := tabEscape_0) (ra := .s 0 0) rfl (AllOk.lp1 ((tabkOk (nuL (nuEscape_0 s)) (fun j _ => nuL_one (l := nuEscape_0 s) rfl j)).hyps ho) (by omega) fi27_at fi27_body (lfCons (lpKnown rfl ⟨0, keyEs, lfOkEs_0 (l := lf24) (h := lh24) s (escS s) (by omega) (by assumption) (0, (0 : Int), ([] : LB)) (mkIEs s (escS s) 0 (0 : Int) ([] : LB) ⟨by omega, by omega, by simp, by simp, fun _ => rfl, fun h => by omega, fun _ => rfl, fun h => by omega, by omega⟩) rfl (by kernel_rfl) (th0 := [(0, .x 0), (1, .x 1), (2, .i .i64 (.ofNat 0))]) (sg0 := []) (fun X => thXv (v := St' s) rfl rfl (thXv (v := .int .i64 ((s.length : Int))) rfl rfl (thCons (show Is _ (.i .i64 (.ofNat 0)) (.int .i64 ((0 : Int))) from isTo (v := .int .i64 0) (isI _ _) (by first | rfl | (congr 1; omega))) (thNil)))) (by kernel_rfl) (thx := []) (thNil) (by kernel_rfl)⟩) lfNil)) rfl (get_lps (by omega)) fiB27 (fun e => runEscape_0 e ) (args := [St' s]) (by simp only [RelL, Rel]; exact ⟨_, _, rfl, rfl, rfl⟩) w hl fun x hx => ?_
  simp only [Rel, RelL] at hx
  exact hx.1
def hyEscape_1 : LK := [(.len (.x 0), .x 1), (.byt (.x 2) (.i .i64 (.ofNat 0)), .x 3), (.len (.x 2), .x 4), (.fit (.x 2), .b true)]
def lh25 : LH := ⟨7, 8, 14, [(7, .b ⟨92, .l [.nilp, .nils], 0, 0, 0, false, false⟩)], [(7, .b ⟨92, .l [.p 7 0, .sy 8], 0, 0, 0, false, false⟩), (8, .t 2 5)]⟩
def lf25 : LF := ⟨3, 40, [(0, .x 0), (3, .p 7 0), (6, .x 0), (7, .x 1), (8, .i .i64 (.ofNat 0))], [2], (.exit 0), [(3, .p 7 0)], some lh25⟩
noncomputable def tabEscape_1 : Tab := addLps ({ tabk with hyp := hyEscape_1 }) 27 fi27 [lf25]
theorem runEscape_1 (e : Nat) : okA (call tabEscape_1 9000 27 [.x 0] ⟨H0 e , 7, 0, 0⟩) (.x 2) = true := by kernel_rfl
def nuEscape_1 (s : LB) : List Value := [St' s, .int .i64 ((s.length : Int)), St' (escS s), .int .u8 (bt (escS s) 0), .int .i64 (((escS s).length : Int))]
theorem pathEscape_1 (s : LB) (b0 : s.length ≤ 9223372036854775807) (p0 : s.length ≤ 400) (h0 : ¬ (s.length = 0)) (w : World) (hl : laidE w) : CwR 27 #[St' s] w (St' (escS s)) := by
  have := escS_len s
  have := bt_lo (escS s) 0; have := bt_hi (escS s) 0
  have ho : ∀ k r, (k, r) ∈ hyEscape_1 → HOk (cx (nuL (nuEscape_1 s)) (fun j _ => nuL_one (l := nuEscape_1 s) rfl j) 1 laidE laidE_stab) k r := by
    unfold hyEscape_1
    exact hc (lnV rfl rfl (by omega)) <|
     hc (kByt (i := 0) (isX rfl) (isZ (m := 0) rfl) (denX rfl) rfl (by first | omega | (simp <;> omega)) rfl) <|
     hc (lnV rfl rfl (by omega)) <|
     hc (kFit (isX rfl) (by first | omega | (simp <;> omega))) <|
     hnil
  refine runC (tb := tabEscape_1) (ra := .x 2) rfl (AllOk.lp1 ((tabkOk (nuL (nuEscape_1 s)) (fun j _ => nuL_one (l := nuEscape_1 s) rfl j)).hyps ho) (by omega) fi27_at fi27_body (lfCons (lpKnown rfl ⟨0, keyEs, lfOkEs_1 (l := lf25) (h := lh25) s (escS s) (by omega) (by assumption) (0, (0 : Int), ([] : LB)) (mkIEs s (escS s) 0 (0 : Int) ([] : LB) ⟨by omega, by omega, by simp, by simp, fun _ => rfl, fun h => by omega, fun _ => rfl, fun h => by omega, by omega⟩) rfl (by kernel_rfl) (th0 := [(0, .x 0), (1, .x 1), (2, .i .i64 (.ofNat 0))]) (sg0 := []) (fun X => thXv (v := St' s) rfl rfl (thXv (v := .int .i64 ((s.length : Int))) rfl rfl (thCons (show Is _ (.i .i64 (.ofNat 0)) (.int .i64 ((0 : Int))) from isTo (v := .int .i64 0) (isI _ _) (by first | rfl | (congr 1; omega))) (thNil)))) (by kernel_rfl) (thx := [(2, .x 0)]) (thXv (v := St' (escS s)) rfl rfl (thNil)) (by kernel_rfl)⟩) lfNil)) rfl (get_lps (by omega)) fiB27 (fun e => runEscape_1 e ) (args := [St' s]) (by simp only [RelL, Rel]; exact ⟨_, _, rfl, rfl, rfl⟩) w hl fun x hx => ?_
  simp only [Rel, RelL] at hx
  exact hx
theorem callsEscape (s : LB) (b0 : s.length ≤ 9223372036854775807) (p0 : s.length ≤ 400) (w : World) (hl : laidE w) : CwR 27 #[St' s] w (St' (escS s)) := by
  by_cases h0 : s.length = 0
  · rw [show (St' (escS s) : Value) = (St' ([] : LB) : Value) from by first | rfl | (have e : s = [] := List.eq_nil_of_length_eq_zero (by assumption); subst e; rfl)]
    exact pathEscape_0 s b0 p0 h0 w hl
  · rw [show (St' (escS s) : Value) = (St' (escS s) : Value) from by first | rfl | (have e : s = [] := List.eq_nil_of_length_eq_zero (by assumption); subst e; rfl)]
    exact pathEscape_1 s b0 p0 h0 w hl
theorem hokEscape {x0 r : AV} {s : LB} (i0 : Is (cx nu one 1 laidE laidE_stab) x0 (St' s)) (hr : Den (cx nu one 1 laidE laidE_stab) r (St' (escS s))) (b0 : s.length ≤ 9223372036854775807) (p0 : s.length ≤ 400) : HOk (cx nu one 1 laidE laidE_stab) (.call 27 [x0]) r := by
  intro ρ args ha w hl _
  simp only [RelL] at ha
  obtain ⟨v0, t0, rfl, a0, rfl⟩ := ha
  have e0 := i0 ρ _ a0; subst e0
  exact (callsEscape s b0 p0 w hl).mono fun e w' he => ⟨_, he.1, hr ρ, he.2⟩
theorem er1 {c : Int} (h0 : 0 ≤ c) (h1 : c ≤ 255) (a0 : tb8 MLtr c = true) : (tb8 MAln c = true ∨ 0 ≤ vIxp c) := by
  obtain ⟨n, rfl⟩ := Int.eq_ofNat_of_zero_le h0
  have h : ∀ m : Fin 256, (tb8 MLtr (m.val : Int) = true) → (tb8 MAln (m.val : Int) = true ∨ 0 ≤ vIxp (m.val : Int)) := by decide +kernel
  exact h ⟨n, by omega⟩ a0
theorem er2 {c : Int} (h0 : 0 ≤ c) (h1 : c ≤ 255) (a0 : tb8 MDgr c = true) : (tb8 MAln c = true ∨ 0 ≤ vIxp c) := by
  obtain ⟨n, rfl⟩ := Int.eq_ofNat_of_zero_le h0
  have h : ∀ m : Fin 256, (tb8 MDgr (m.val : Int) = true) → (tb8 MAln (m.val : Int) = true ∨ 0 ≤ vIxp (m.val : Int)) := by decide +kernel
  exact h ⟨n, by omega⟩ a0
theorem er3 {c : Int} (h0 : 0 ≤ c) (h1 : c ≤ 255) (a0 : tb8 MInp c = true) : (tb8 MAln c = true ∨ 0 ≤ vIxp c) := by
  obtain ⟨n, rfl⟩ := Int.eq_ofNat_of_zero_le h0
  have h : ∀ m : Fin 256, (tb8 MInp (m.val : Int) = true) → (tb8 MAln (m.val : Int) = true ∨ 0 ≤ vIxp (m.val : Int)) := by decide +kernel
  exact h ⟨n, by omega⟩ a0
theorem er4 {c : Int} (h0 : 0 ≤ c) (h1 : c ≤ 255) (a0 : ¬ tb8 MLtr c = true) (a1 : ¬ tb8 MDgr c = true) (a2 : ¬ tb8 MInp c = true) : ¬ (tb8 MAln c = true ∨ 0 ≤ vIxp c) := by
  obtain ⟨n, rfl⟩ := Int.eq_ofNat_of_zero_le h0
  have h : ∀ m : Fin 256, (¬ tb8 MLtr (m.val : Int) = true) → (¬ tb8 MDgr (m.val : Int) = true) → (¬ tb8 MInp (m.val : Int) = true) → ¬ (tb8 MAln (m.val : Int) = true ∨ 0 ≤ vIxp (m.val : Int)) := by decide +kernel
  exact h ⟨n, by omega⟩ a0 a1 a2
theorem mid1 {l : LB} {P Q : Int} (h0 : 0 ≤ P) (h1 : P < l.length) (hq : Q = P + 1) : [u8 (bt l (Int.toNat (P)))] = (l.drop (Int.toNat P)).take (Int.toNat (Q - P)) := by
  rw [show (Q - P).toNat = 1 by omega, List.drop_eq_getElem_cons (by omega), u8_bt, List.getD_eq_getElem?_getD, List.getElem?_eq_getElem (by omega), Option.getD_some]; rfl
theorem hxU_bt {k : Int} (h0 : 0 ≤ k) (h1 : k ≤ 15) : bt ([u8 48, u8 49, u8 50, u8 51, u8 52, u8 53, u8 54, u8 55, u8 56, u8 57, u8 65, u8 66, u8 67, u8 68, u8 69, u8 70] : LB) (Int.toNat (k)) = hxU k := by
  obtain ⟨n, rfl⟩ := Int.eq_ofNat_of_zero_le h0
  have h : ∀ m : Fin 16, bt ([u8 48, u8 49, u8 50, u8 51, u8 52, u8 53, u8 54, u8 55, u8 56, u8 57, u8 65, u8 66, u8 67, u8 68, u8 69, u8 70] : LB) m.val = hxU (m.val : Int) := by decide +kernel
  exact h ⟨n, by omega⟩
section
variable {s o T : LB} {i : Int}
theorem er_keep (h0 : 0 ≤ i) (h : i < (s.length : Int)) (hk : tb8 MAln (bt s (Int.toNat (i))) = true ∨ 0 ≤ vIxp (bt s (Int.toNat (i)))) (hT : o ++ escS (s.drop (Int.toNat i)) = T) : (o ++ [u8 (bt s (Int.toNat (i)))]) ++ escS (s.drop (Int.toNat (i + 1))) = T := by
  rw [← hT, esc_step h0 h, show escB (bt s i.toNat) = [u8 (bt s i.toNat)] from if_pos hk, List.append_assoc]
theorem er_esc (h0 : 0 ≤ i) (h : i < (s.length : Int)) (hk : ¬ (tb8 MAln (bt s (Int.toNat (i))) = true ∨ 0 ≤ vIxp (bt s (Int.toNat (i))))) (hT : o ++ escS (s.drop (Int.toNat i)) = T) : (o ++ [u8 37, u8 (hxU (bt s (Int.toNat (i)) / 16)), u8 (hxU (bt s (Int.toNat (i)) % 16))]) ++ escS (s.drop (Int.toNat (i + 1))) = T := by
  rw [← hT, esc_step h0 h, show escB (bt s i.toNat) = _ from if_neg hk, List.append_assoc]
end
noncomputable def bodyEr : Code := loopNo (Tryd.f28.body.getD .skip) 0
theorem keyEr : oneKey (loopsOf (Tryd.f28.body.getD .skip)) 3 0 0 = true := by kernel_rfl
def keepEr : List Nat := []
def epEr_0 : LA := [(0, .x 0), (3, .x 2), (4, .x 1)]
def hpEr_0 : LE := []
def nuEr_0 (s T : LB) (i : Int) (o : LB) : List Value := [St' s, .int .i64 (i), St' o, .int .i64 ((s.length : Int)), .int .i64 ((s.length : Int)), .int .u8 (bt s (Int.toNat (i))), .int .i64 (i + 1), St' ([u8 (bt s (Int.toNat (i)))]), St' (o ++ [u8 (bt s (Int.toNat (i)))]), .int .i64 ((s.length : Int)), .int .u8 (bt s (Int.toNat (i))), .int .i64 (i + 1), St' ([u8 (bt s (Int.toNat (i)))]), St' (o ++ [u8 (bt s (Int.toNat (i)))]), .int .i64 ((s.length : Int)), .int .u8 (bt s (Int.toNat (i))), .int .i64 (i + 1), St' ([u8 (bt s (Int.toNat (i)))]), St' (o ++ [u8 (bt s (Int.toNat (i)))]), .int .i64 ((s.length : Int)), .int .u8 (bt s (Int.toNat (i))), St' (o ++ [u8 37]), .int .u8 ((bt s (Int.toNat (i))) / 16), .int .u8 (hxU ((bt s (Int.toNat (i))) / 16)), .int .u8 ((bt s (Int.toNat (i))) % 16), .int .u8 (hxU ((bt s (Int.toNat (i))) % 16)), St' ([u8 (hxU ((bt s (Int.toNat (i))) / 16)), u8 (hxU ((bt s (Int.toNat (i))) % 16))]), St' (o ++ [u8 37, u8 (hxU ((bt s (Int.toNat (i))) / 16)), u8 (hxU ((bt s (Int.toNat (i))) % 16))]), .int .i64 (i + 1)]
def roEr_0 (s T : LB) (i : Int) (o : LB) : List Value := []
def epEr (st : Nat × Int × LB) : LA := epEr_0
def hpEr (st : Nat × Int × LB) : LE := hpEr_0
def nuEr (s T : LB) (st : Nat × Int × LB) : List Value := nuEr_0 s T (st.2.1) (st.2.2)
def roEr (s T : LB) (st : Nat × Int × LB) : List Value := roEr_0 s T (st.2.1) (st.2.2)
theorem onEr (s T : LB) (st : Nat × Int × LB) : ∀ j, (nuL (nuEr s T st) j).oneCell' = true := by
  intro j
  unfold nuEr
  exact nuL_one (l := nuEr_0 s T (st.2.1) (st.2.2)) rfl j
theorem ebEr (st : Nat × Int × LB) : (lfB (epEr st) && lfC keepEr) = true := by
  unfold epEr
  rfl
noncomputable def DEr (s T : LB) (st : Nat × Int × LB) (X : Nat → Value) : Cx := cx (nuX (nuEr s T st) (rX (roEr s T st) X)) (nuX_one (onEr s T st)) 1 laidE laidE_stab
def InvEr (s T : LB) (st : Nat × Int × LB) : Prop := (0 ≤ (st.2.1)) ∧ ((st.2.1) ≤ (s.length : Int)) ∧ ((st.2.2) ++ escS (s.drop (Int.toNat (st.2.1))) = T) ∧ (((st.2.2).length : Int) ≤ 3 * (st.2.1)) ∧ ((st.1) < 1)
abbrev CjEr (s T : LB) (tag : Nat) (i : Int) (o : LB) : Prop := (0 ≤ i) ∧ (i ≤ (s.length : Int)) ∧ (o ++ escS (s.drop (Int.toNat i)) = T) ∧ ((o.length : Int) ≤ 3 * i) ∧ (tag < 1)
theorem mkIEr (s T : LB) (tag : Nat) (i : Int) (o : LB) (h : CjEr s T tag i o) : InvEr s T (tag, i, o) := h
theorem unIEr (s T : LB) (tag : Nat) (i : Int) (o : LB) (h : InvEr s T (tag, i, o)) : (0 ≤ i) ∧ (i ≤ (s.length : Int)) ∧ (o ++ escS (s.drop (Int.toNat i)) = T) ∧ ((o.length : Int) ≤ 3 * i) ∧ (tag < 1) := h
def muEr (s T : LB) (st : Nat × Int × LB) : Nat := (s.length - (st.2.1).toNat)
abbrev RHEr (s T : LB) (E' : Cx) (ex' : Ex) (epx' : LA) (hpx' : LE) (st : Nat × Int × LB) (X : Nat → Value) : Prop := RoundH E' bodyEr keepEr 53 ex' 7 7 7 11 epEr hpEr epx' hpx' (InvEr s T) (muEr s T) (DEr s T) st X
noncomputable abbrev RNEr_0 (h : LK) (x : Ex) (th : LA) (sg : List (Nat × Nat)) (m : Nat) (ep : LA) (hp : LE) : Bool := okRdH (code (tbl h) 900 [] bodyEr (envOf (headOf epEr_0 keepEr) 53) ⟨lhSet hpEr_0 .leaf, 7, 0, 0⟩) x keepEr 53 11 th sg 7 m ep hp
theorem stEr_0 (s T : LB) (i : Int) (o : LB) {X : Nat → Value} {h : LK} (y : Nat × Int × LB) {th : LA} {sg : List (Nat × Nat)} (ho : ∀ a' r', (a', r') ∈ h → HOk (cx (nuX (nuEr_0 s T i o) (rX (roEr_0 s T i o) X)) (nuX_one (nuL_one (l := nuEr_0 s T i o) rfl)) 1 laidE laidE_stab) a' r') (hy : InvEr s T y) (lt : muEr s T y < muEr s T (0, i, o)) (ht : ThOk (cx (nuX (nuEr_0 s T i o) (rX (roEr_0 s T i o) X)) (nuX_one (nuL_one (l := nuEr_0 s T i o) rfl)) 1 laidE laidE_stab) (DEr s T y X) th) (run : RNEr_0 h .normal th sg 7 (epEr y) (hpEr y) = true) : RHEr s T E' x' e' h' (0, i, o) X :=
  RoundH.next (tb := tbl h) (L := []) (f := 900) y ((tabkOk _ _).hyps ho) (LpOk.nil _) rfl hy lt ht run
theorem lvEr_0 (s T : LB) (i : Int) (o : LB) {X : Nat → Value} {h : LK} {th : LA} {sg : List (Nat × Nat)} (hne : exB x' .normal = false) (ho : ∀ a' r', (a', r') ∈ h → HOk (cx (nuX (nuEr_0 s T i o) (rX (roEr_0 s T i o) X)) (nuX_one (nuL_one (l := nuEr_0 s T i o) rfl)) 1 laidE laidE_stab) a' r') (ht : ThOk (cx (nuX (nuEr_0 s T i o) (rX (roEr_0 s T i o) X)) (nuX_one (nuL_one (l := nuEr_0 s T i o) rfl)) 1 laidE laidE_stab) E' th) (run : RNEr_0 h x' th sg 11 e' h' = true) : RHEr s T E' x' e' h' (0, i, o) X :=
  RoundH.leave (tb := tbl h) (L := []) (f := 900) ((tabkOk _ _).hyps ho) (LpOk.nil _) rfl hne ht run
def hyEr_p0 : LK := [(.len (.x 0), .x 3), (.bin .lss (.x 1) (.x 3), .b false)]
theorem runEr_p0 : RNEr_0 hyEr_p0 (.exit 0) [(0, .x 2)] [] 11 [(3, .x 0)] [] = true := by kernel_rfl
def hyEr_p1 : LK := [(.len (.x 0), .x 4), (.bin .lss (.x 1) (.x 4), .b true), (.idx (.x 0) (.x 1), .x 5), (.call 63 [.x 5], .b true), (.bin .add (.x 1) (.i .i64 (.ofNat 1)), .x 6), (.sub (.x 0) (some (.x 1)) (some (.x 6)), .x 7), (.bin .add (.x 2) (.x 7), .x 8)]
theorem runEr_p1 : RNEr_0 hyEr_p1 .normal [(0, .x 0), (1, .x 6), (2, .x 8)] [] 7 epEr_0 hpEr_0 = true := by kernel_rfl
theorem nxEr_p1 (s T : LB) (c0 : s.length ≤ 400) (i : Int) (o : LB) (X : Nat → Value) (hI : InvEr s T (0, i, o)) (h0 : i < (s.length : Int)) (h1 : tb8 MLtr (bt s (Int.toNat (i))) = true) : RHEr s T E' x' e' h' (0, i, o) X := by
  obtain ⟨i0, i1, i2, i3, it⟩ := unIEr s T 0 i o hI
  have := bt_lo s (Int.toNat (i)); have := bt_hi s (Int.toNat (i))
  refine stEr_0 s T i o (h := hyEr_p1) (0, (i + 1), (o ++ [u8 (bt s (Int.toNat (i)))])) ?_ (mkIEr s T 0 (i + 1) (o ++ [u8 (bt s (Int.toNat (i)))]) ⟨by omega, by omega, er_keep (by omega) (by omega) (by first | exact er1 (bt_lo _ _) (bt_hi _ _) (by assumption) | exact er2 (bt_lo _ _) (bt_hi _ _) (by assumption) | exact er3 (bt_lo _ _) (bt_hi _ _) (by assumption)) i2, by simp only [List.length_append, List.length_cons, List.length_nil]; omega, by omega⟩) (by show s.length - (i + 1).toNat < s.length - i.toNat; omega) (thXv (v := St' s) rfl rfl (thXi (b := ((i + 1))) rfl rfl (by omega) (thXv (v := St' (o ++ [u8 (bt s (Int.toNat (i)))])) rfl rfl (thNil)))) runEr_p1
  unfold hyEr_p1
  exact hc (lnV rfl rfl (by omega)) <|
   hc (ltT rfl rfl (by omega)) <|
   hc (ixV rfl rfl rfl (by omega)) <|
   hc (hokLtr (isX rfl) (by omega) (by omega) (denBT (by assumption))) <|
   hc (adC rfl rfl (by omega)) <|
   hc (kMid (P := i) (Q := i + 1) (isX rfl) (.inr ⟨_, _, rfl, (isX rfl)⟩) (.inr ⟨_, _, rfl, (isX rfl)⟩) (by omega) (by omega) (by omega) (denX (congrArg (fun l => St' l) (mid1 (by omega) (by omega) (by omega))))) <|
   hc (kCat (isX rfl) (isX rfl) (denX rfl) (by first | rfl | (simp; done)) (by first | omega | (simp <;> omega))) <|
   hnil
def hyEr_p2 : LK := [(.len (.x 0), .x 9), (.bin .lss (.x 1) (.x 9), .b true), (.idx (.x 0) (.x 1), .x 10), (.call 63 [.x 10], .b false), (.call 56 [.x 10], .b true), (.bin .add (.x 1) (.i .i64 (.ofNat 1)), .x 11), (.sub (.x 0) (some (.x 1)) (some (.x 11)), .x 12), (.bin .add (.x 2) (.x 12), .x 13)]
theorem runEr_p2 : RNEr_0 hyEr_p2 .normal [(0, .x 0), (1, .x 11), (2, .x 13)] [] 7 epEr_0 hpEr_0 = true := by kernel_rfl
theorem nxEr_p2 (s T : LB) (c0 : s.length ≤ 400) (i : Int) (o : LB) (X : Nat → Value) (hI : InvEr s T (0, i, o)) (h0 : i < (s.length : Int)) (h1 : ¬ (tb8 MLtr (bt s (Int.toNat (i))) = true)) (h2 : tb8 MDgr (bt s (Int.toNat (i))) = true) : RHEr s T E' x' e' h' (0, i, o) X := by
  obtain ⟨i0, i1, i2, i3, it⟩ := unIEr s T 0 i o hI
  have := bt_lo s (Int.toNat (i)); have := bt_hi s (Int.toNat (i))
  refine stEr_0 s T i o (h := hyEr_p2) (0, (i + 1), (o ++ [u8 (bt s (Int.toNat (i)))])) ?_ (mkIEr s T 0 (i + 1) (o ++ [u8 (bt s (Int.toNat (i)))]) ⟨by omega, by omega, er_keep (by omega) (by omega) (by first | exact er1 (bt_lo _ _) (bt_hi _ _) (by assumption) | exact er2 (bt_lo _ _) (bt_hi _ _) (by assumption) | exact er3 (bt_lo _ _) (bt_hi _ _) (by assumption)) i2, by simp only [List.length_append, List.length_cons, List.length_nil]; omega, by omega⟩) (by show s.length - (i + 1).toNat < s.length - i.toNat; omega) (thXv (v := St' s) rfl rfl (thXi (b := ((i + 1))) rfl rfl (by omega) (thXv (v := St' (o ++ [u8 (bt s (Int.toNat (i)))])) rfl rfl (thNil)))) runEr_p2
  unfold hyEr_p2
  exact hc (lnV rfl rfl (by omega)) <|
   hc (ltT rfl rfl (by omega)) <|
   hc (ixV rfl rfl rfl (by omega)) <|
   hc (hokLtr (isX rfl) (by omega) (by omega) (denBF (by assumption))) <|
   hc (hokDgr (isX rfl) (by omega) (by omega) (denBT (by assumption))) <|
   hc (adC rfl rfl (by omega)) <|
   hc (kMid (P := i) (Q := i + 1) (isX rfl) (.inr ⟨_, _, rfl, (isX rfl)⟩) (.inr ⟨_, _, rfl, (isX rfl)⟩) (by omega) (by omega) (by omega) (denX (congrArg (fun l => St' l) (mid1 (by omega) (by omega) (by omega))))) <|
   hc (kCat (isX rfl) (isX rfl) (denX rfl) (by first | rfl | (simp; done)) (by first | omega | (simp <;> omega))) <|
   hnil
def hyEr_p3 : LK := [(.len (.x 0), .x 14), (.bin .lss (.x 1) (.x 14), .b true), (.idx (.x 0) (.x 1), .x 15), (.call 63 [.x 15], .b false), (.call 56 [.x 15], .b false), (.call 64 [.x 15, .s 5 203983629869], .b true), (.bin .add (.x 1) (.i .i64 (.ofNat 1)), .x 16), (.sub (.x 0) (some (.x 1)) (some (.x 16)), .x 17), (.bin .add (.x 2) (.x 17), .x 18)]
theorem runEr_p3 : RNEr_0 hyEr_p3 .normal [(0, .x 0), (1, .x 16), (2, .x 18)] [] 7 epEr_0 hpEr_0 = true := by kernel_rfl
theorem nxEr_p3 (s T : LB) (c0 : s.length ≤ 400) (i : Int) (o : LB) (X : Nat → Value) (hI : InvEr s T (0, i, o)) (h0 : i < (s.length : Int)) (h1 : ¬ (tb8 MLtr (bt s (Int.toNat (i))) = true)) (h2 : ¬ (tb8 MDgr (bt s (Int.toNat (i))) = true)) (h3 : tb8 MInp (bt s (Int.toNat (i))) = true) : RHEr s T E' x' e' h' (0, i, o) X := by
  obtain ⟨i0, i1, i2, i3, it⟩ := unIEr s T 0 i o hI
  have := bt_lo s (Int.toNat (i)); have := bt_hi s (Int.toNat (i))
  refine stEr_0 s T i o (h := hyEr_p3) (0, (i + 1), (o ++ [u8 (bt s (Int.toNat (i)))])) ?_ (mkIEr s T 0 (i + 1) (o ++ [u8 (bt s (Int.toNat (i)))]) ⟨by omega, by omega, er_keep (by omega) (by omega) (by first | exact er1 (bt_lo _ _) (bt_hi _ _) (by assumption) | exact er2 (bt_lo _ _) (bt_hi _ _) (by assumption) | exact er3 (bt_lo _ _) (bt_hi _ _) (by assumption)) i2, by simp only [List.length_append, List.length_cons, List.length_nil]; omega, by omega⟩) (by show s.length - (i + 1).toNat < s.length - i.toNat; omega) (thXv (v := St' s) rfl rfl (thXi (b := ((i + 1))) rfl rfl (by omega) (thXv (v := St' (o ++ [u8 (bt s (Int.toNat (i)))])) rfl rfl (thNil)))) runEr_p3
  unfold hyEr_p3
  exact hc (lnV rfl rfl (by omega)) <|
   hc (ltT rfl rfl (by omega)) <|
   hc (ixV rfl rfl rfl (by omega)) <|
   hc (hokLtr (isX rfl) (by omega) (by omega) (denBF (by assumption))) <|
   hc (hokDgr (isX rfl) (by omega) (by omega) (denBF (by assumption))) <|
   hc (hokInp (isX rfl) (isSx (l := [u8 45, u8 46, u8 95, u8 126, u8 47]) 5 203983629869 rfl) (by omega) (by omega) (denBT (by assumption))) <|
   hc (adC rfl rfl (by omega)) <|
   hc (kMid (P := i) (Q := i + 1) (isX rfl) (.inr ⟨_, _, rfl, (isX rfl)⟩) (.inr ⟨_, _, rfl, (isX rfl)⟩) (by omega) (by omega) (by omega) (denX (congrArg (fun l => St' l) (mid1 (by omega) (by omega) (by omega))))) <|
   hc (kCat (isX rfl) (isX rfl) (denX rfl) (by first | rfl | (simp; done)) (by first | omega | (simp <;> omega))) <|
   hnil
def hyEr_p4 : LK := [(.len (.x 0), .x 19), (.bin .lss (.x 1) (.x 19), .b true), (.idx (.x 0) (.x 1), .x 20), (.call 63 [.x 20], .b false), (.call 56 [.x 20], .b false), (.call 64 [.x 20, .s 5 203983629869], .b false), (.bin .add (.x 2) (.s 1 37), .x 21), (.bin .quo (.x 20) (.i .u8 (.ofNat 16)), .x 22), (.idx (.s 16 93405612720827812017303888595717861680) (.x 22), .x 23), (.bin .rem (.x 20) (.i .u8 (.ofNat 16)), .x 24), (.idx (.s 16 93405612720827812017303888595717861680) (.x 24), .x 25), (.bytes [.x 23, .x 25], .x 26), (.bin .add (.x 21) (.x 26), .x 27), (.bin .add (.x 1) (.i .i64 (.ofNat 1)), .x 28)]
theorem runEr_p4 : RNEr_0 hyEr_p4 .normal [(0, .x 0), (1, .x 28), (2, .x 27)] [] 7 epEr_0 hpEr_0 = true := by kernel_rfl
theorem nxEr_p4 (s T : LB) (c0 : s.length ≤ 400) (i : Int) (o : LB) (X : Nat → Value) (hI : InvEr s T (0, i, o)) (h0 : i < (s.length : Int)) (h1 : ¬ (tb8 MLtr (bt s (Int.toNat (i))) = true)) (h2 : ¬ (tb8 MDgr (bt s (Int.toNat (i))) = true)) (h3 : ¬ (tb8 MInp (bt s (Int.toNat (i))) = true)) : RHEr s T E' x' e' h' (0, i, o) X := by
  obtain ⟨i0, i1, i2, i3, it⟩ := unIEr s T 0 i o hI
  have := bt_lo s (Int.toNat (i)); have := bt_hi s (Int.toNat (i))
  have := hxU_lo (d := (bt s (Int.toNat (i))) / 16) (by omega) (by omega)
  have := hxU_lo (d := (bt s (Int.toNat (i))) % 16) (by omega) (by omega)
  refine stEr_0 s T i o (h := hyEr_p4) (0, (i + 1), (o ++ [u8 37, u8 (hxU ((bt s (Int.toNat (i))) / 16)), u8 (hxU ((bt s (Int.toNat (i))) % 16))])) ?_ (mkIEr s T 0 (i + 1) (o ++ [u8 37, u8 (hxU ((bt s (Int.toNat (i))) / 16)), u8 (hxU ((bt s (Int.toNat (i))) % 16))]) ⟨by omega, by omega, er_esc (by omega) (by omega) (er4 (bt_lo _ _) (bt_hi _ _) (by assumption) (by assumption) (by assumption)) i2, by simp only [List.length_append, List.length_cons, List.length_nil]; omega, by omega⟩) (by show s.length - (i + 1).toNat < s.length - i.toNat; omega) (thXv (v := St' s) rfl rfl (thXi (b := ((i + 1))) rfl rfl (by omega) (thXv (v := St' (o ++ [u8 37, u8 (hxU ((bt s (Int.toNat (i))) / 16)), u8 (hxU ((bt s (Int.toNat (i))) % 16))])) rfl rfl (thNil)))) runEr_p4
  unfold hyEr_p4
  exact hc (lnV rfl rfl (by omega)) <|
   hc (ltT rfl rfl (by omega)) <|
   hc (ixV rfl rfl rfl (by omega)) <|
   hc (hokLtr (isX rfl) (by omega) (by omega) (denBF (by assumption))) <|
   hc (hokDgr (isX rfl) (by omega) (by omega) (denBF (by assumption))) <|
   hc (hokInp (isX rfl) (isSx (l := [u8 45, u8 46, u8 95, u8 126, u8 47]) 5 203983629869 rfl) (by omega) (by omega) (denBF (by assumption))) <|
   hc (kCat (isX rfl) (isSx (l := [u8 37]) 1 37 rfl) (denX rfl) (by first | rfl | (simp; done)) (by first | omega | (simp <;> omega))) <|
   hc (kQuo (isX rfl) (isZ (m := 16) rfl) (denX rfl) (by omega) (by omega) rfl (fU8 (by omega) (by omega))) <|
   hc (kIdxE (i := (Int.toNat ((bt s (Int.toNat (i))) / 16))) (isSx (l := [u8 48, u8 49, u8 50, u8 51, u8 52, u8 53, u8 54, u8 55, u8 56, u8 57, u8 65, u8 66, u8 67, u8 68, u8 69, u8 70]) 16 93405612720827812017303888595717861680 rfl) (isX rfl) (denX rfl) (by omega) (by simp only [List.length_cons, List.length_nil]; omega) (hxU_bt (by omega) (by omega))) <|
   hc (kRem (isX rfl) (isZ (m := 16) rfl) (denX rfl) (by omega) (by omega) rfl) <|
   hc (kIdxE (i := (Int.toNat ((bt s (Int.toNat (i))) % 16))) (isSx (l := [u8 48, u8 49, u8 50, u8 51, u8 52, u8 53, u8 54, u8 55, u8 56, u8 57, u8 65, u8 66, u8 67, u8 68, u8 69, u8 70]) 16 93405612720827812017303888595717861680 rfl) (isX rfl) (denX rfl) (by omega) (by simp only [List.length_cons, List.length_nil]; omega) (hxU_bt (by omega) (by omega))) <|
   hc (kBytesB (bs := [u8 (hxU ((bt s (Int.toNat (i))) / 16)), u8 (hxU ((bt s (Int.toNat (i))) % 16))]) (.cons (isB8 (isX rfl) (by omega) (by omega)) (.cons (isB8 (isX rfl) (by omega) (by omega)) .nil)) (denX rfl)) <|
   hc (kCat (isX rfl) (isX rfl) (denX rfl) (by first | rfl | (simp; done)) (by first | omega | (simp <;> omega))) <|
   hc (adC rfl rfl (by omega)) <|
   hnil
def nuEEr_0 (s T : LB) : List Value := [St' T]
def roEEr_0 (s T : LB) : List Value := []
noncomputable def EEr_0 (s T : LB) : Cx := cx (nuX (nuEEr_0 s T) (rX (roEEr_0 s T) (fun _ => .bool true))) (nuX_one (nuL_one (l := nuEEr_0 s T) rfl)) 1 laidE laidE_stab
theorem roundsEr_0 (s T : LB) (c0 : s.length ≤ 400) (st : Nat × Int × LB) (X : Nat → Value) (hI : InvEr s T st) : RHEr s T (EEr_0 s T) (.exit 0) [(3, .x 0)] [] st X := by
  obtain ⟨tag, i, o⟩ := st
  have hI0 := hI
  obtain ⟨i0, i1, i2, i3, it⟩ := unIEr s T tag i o hI
  obtain rfl : tag = 0 := by omega
  skip
  by_cases h0 : i < (s.length : Int)
  · by_cases h1 : tb8 MLtr (bt s (Int.toNat (i))) = true
    · exact nxEr_p1 s T c0 i o X hI0 h0 h1
    · by_cases h2 : tb8 MDgr (bt s (Int.toNat (i))) = true
      · exact nxEr_p2 s T c0 i o X hI0 h0 h1 h2
      · by_cases h3 : tb8 MInp (bt s (Int.toNat (i))) = true
        · exact nxEr_p3 s T c0 i o X hI0 h0 h1 h2 h3
        · exact nxEr_p4 s T c0 i o X hI0 h0 h1 h2 h3
  · skip
    refine lvEr_0 s T i o (h := hyEr_p0) rfl ?_ (thXe (v := St' o) (u := St' T) rfl rfl (congrArg (fun l => St' l) (by rw [← i2, esc_end (by omega)]; simp)) (thNil)) runEr_p0
    unfold hyEr_p0
    exact hc (lnV rfl rfl (by omega)) <|
     hc (ltF rfl rfl (by omega)) <|
     hnil
theorem lfOkEr_0 {l : LF} {h : LH} (s T : LB) (c0 : s.length ≤ 400) (st : Nat × Int × LB) (hI : InvEr s T st) (hl : l.hp = some h) (hs : lfSame l h 53 keepEr (.exit 0) 7 7 11 = true) {th0 : LA} {sg0 : List (Nat × Nat)} (hth0 : ∀ X, ThOk (cx nu one 1 laidE laidE_stab) (DEr s T st X) th0) (h0 : startOk l h 53 7 7 th0 sg0 (epEr st) (hpEr st) = true) {thx : LA} (hthx : ThOk (EEr_0 s T) (cx nu one 1 laidE laidE_stab) thx) (hx : exitOk l h 53 7 11 thx [(3, .x 0)] [] = true) : LfOk (cx nu one 1 laidE laidE_stab) bodyEr l :=
  lfOkX (E := EEr_0 s T) (InvEr s T) (muEr s T) (DEr s T) (fun _ _ => rfl) (fun _ _ => rfl) (fun _ _ => rfl) (fun st X t ht => nuX_keep.trans (rX_keep ((by decide : ∀ t, t ∈ keepEr → t < 1000000) t ht))) rfl rfl rfl hl hs ebEr rfl rfl st hI hth0 h0 hthx hx (roundsEr_0 s T c0)
noncomputable def fi28 : FI := (tabk.fn.get 28).getD default
theorem fi28_at : tabk.fn.get 28 = some fi28 := by kernel_rfl
theorem fi28_body : fi28.body = some (Tryd.f28.body.getD .skip) := by kernel_rfl
theorem fiB28 : fi28.body.isSome = true := by rw [fi28_body]; rfl
def hyEscR_0 : LK := []
def lh26 : LH := ⟨7, 7, 11, [], []⟩
def lf26 : LF := ⟨3, 53, [(0, .x 0), (3, .s 0 0), (4, .i .i64 (.ofNat 0))], [], (.exit 0), [(3, .x 1)], some lh26⟩
noncomputable def tabEscR_0 : Tab := addLps ({ tabk with hyp := hyEscR_0 }) 28 fi28 [lf26]
theorem runEscR_0 (e : Nat) : okA (call tabEscR_0 9000 28 [.x 0] ⟨H0 e , 7, 0, 0⟩) (.x 1) = true := by kernel_rfl
def nuEscR_0 (s : LB) : List Value := [St' s, St' (escS s)]
theorem pathEscR_0 (s : LB) (b0 : s.length ≤ 9223372036854775807) (p0 : s.length ≤ 400) (w : World) (hl : laidE w) : CwR 28 #[St' s] w (St' (escS s)) := by
  have := escS_len s
  have ho : ∀ k r, (k, r) ∈ hyEscR_0 → HOk (cx (nuL (nuEscR_0 s)) (fun j _ => nuL_one (l := nuEscR_0 s) rfl j) 1 laidE laidE_stab) k r := by
    unfold hyEscR_0
    exact hnil
  refine runC (tb := tabEscR_0) (ra := .x 1) rfl (AllOk.lp1 ((tabkOk (nuL (nuEscR_0 s)) (fun j _ => nuL_one (l := nuEscR_0 s) rfl j)).hyps ho) (by omega) fi28_at fi28_body (lfCons (lpKnown rfl ⟨0, keyEr, lfOkEr_0 (l := lf26) (h := lh26) s (escS s) (by omega) (0, (0 : Int), ([] : LB)) (mkIEr s (escS s) 0 (0 : Int) ([] : LB) ⟨by omega, by omega, by simp, by simp, by omega⟩) rfl (by kernel_rfl) (th0 := [(0, .x 0), (1, .i .i64 (.ofNat 0)), (2, .s 0 0)]) (sg0 := []) (fun X => thXv (v := St' s) rfl rfl (thCons (show Is _ (.i .i64 (.ofNat 0)) (.int .i64 ((0 : Int))) from isTo (v := .int .i64 0) (isI _ _) (by first | rfl | (congr 1; omega))) (thCons (show Is _ (.s 0 0) (St' ([] : LB)) from isTo (v := St' ([] : LB)) (isSx (l := ([] : LB)) 0 0 rfl) (by first | rfl | (simp; done))) (thNil)))) (by kernel_rfl) (thx := [(1, .x 0)]) (thXv (v := St' (escS s)) rfl rfl (thNil)) (by kernel_rfl)⟩) lfNil)) rfl (get_lps (by omega)) fiB28 (fun e => runEscR_0 e ) (args := [St' s]) (by simp only [RelL, Rel]; exact ⟨_, _, rfl, rfl, rfl⟩) w hl fun x hx => ?_
  simp only [Rel, RelL] at hx
  exact hx
theorem callsEscR (s : LB) (b0 : s.length ≤ 9223372036854775807) (p0 : s.length ≤ 400) (w : World) (hl : laidE w) : CwR 28 #[St' s] w (St' (escS s)) := by
  rw [show (St' (escS s) : Value) = (St' (escS s) : Value) from by rfl]
  exact pathEscR_0 s b0 p0 w hl
theorem hokEscR {x0 r : AV} {s : LB} (i0 : Is (cx nu one 1 laidE laidE_stab) x0 (St' s)) (hr : Den (cx nu one 1 laidE laidE_stab) r (St' (escS s))) (b0 : s.length ≤ 9223372036854775807) (p0 : s.length ≤ 400) : HOk (cx nu one 1 laidE laidE_stab) (.call 28 [x0]) r := by
  intro ρ args ha w hl _
  simp only [RelL] at ha
  obtain ⟨v0, t0, rfl, a0, rfl⟩ := ha
  have e0 := i0 ρ _ a0; subst e0
  exact (callsEscR s b0 p0 w hl).mono fun e w' he => ⟨_, he.1, hr ρ, he.2⟩
end Go.Proofs.YtacflaaahanhgaaDoor.octetTells
