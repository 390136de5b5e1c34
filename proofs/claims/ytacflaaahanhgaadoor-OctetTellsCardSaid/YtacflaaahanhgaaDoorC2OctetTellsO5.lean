/- A part of the proof: an interpreter of the model's own code on partly known states, and that what it answers is what the program answers. No condition of its own. -/
import Derived.Test.YtacflaaahanhgaaDoorC2OctetTellsO4
set_option maxRecDepth 100000
set_option linter.unusedVariables false
set_option linter.unusedSimpArgs false
set_option maxHeartbeats 4000000
namespace Go.Proofs.YtacflaaahanhgaaDoor.octetTells
open Go Go.AX Go.Proofs Go.Proofs.YtacflaaahanhgaaDoor
variable {nu : Nat → Value} {one : ∀ i, i < 1000000 → (nu i).oneCell' = true} {E' : Cx} {x' : Ex} {e' : LA} {h' : LE}
theorem dgtI {c : Int} (b0 : 0 ≤ c) (b1 : c ≤ 255) : vDgt c = digI c := by
  obtain ⟨n, rfl⟩ := Int.eq_ofNat_of_zero_le b0
  have h : ∀ m : Fin 256, LDgt.getD m.val 0 = digI (m.val : Int) := by decide +kernel
  exact h ⟨n, by omega⟩
theorem nibI {c : Int} (b0 : 0 ≤ c) (b1 : c ≤ 255) : (vNib c < 0 ∧ digI c = 16) ∨ (0 ≤ vNib c ∧ vNib c = digI c ∧ digI c < 16) := by
  obtain ⟨n, rfl⟩ := Int.eq_ofNat_of_zero_le b0
  have h : ∀ m : Fin 256, (LNib.getD m.val 0 < 0 ∧ digI (m.val : Int) = 16) ∨ (0 ≤ LNib.getD m.val 0 ∧ LNib.getD m.val 0 = digI (m.val : Int) ∧ digI (m.val : Int) < 16) := by decide +kernel
  exact h ⟨n, by omega⟩
theorem dgrI {c : Int} (b0 : 0 ≤ c) (b1 : c ≤ 255) : (tb8 MDgr c = true ∧ digI c = c - 48 ∧ digI c < 10 ∧ 48 ≤ c ∧ c ≤ 57) ∨ (tb8 MDgr c = false ∧ 10 ≤ digI c) := by
  obtain ⟨n, rfl⟩ := Int.eq_ofNat_of_zero_le b0
  have h : ∀ m : Fin 256, (tb8 MDgr (m.val : Int) = true ∧ digI (m.val : Int) = (m.val : Int) - 48 ∧ digI (m.val : Int) < 10 ∧ 48 ≤ (m.val : Int) ∧ (m.val : Int) ≤ 57) ∨ (tb8 MDgr (m.val : Int) = false ∧ 10 ≤ digI (m.val : Int)) := by decide +kernel
  exact h ⟨n, by omega⟩
def okB (B : Int) (s : LB) : Bool := s.all fun b => decide (digI (b.toNat : Int) < B)
theorem okB_at {B : Int} {s : LB} {i : Int} (h0 : 0 ≤ i) (h : i < s.length) : okB B (s.drop (Int.toNat i)) = (decide (digI (bt s (Int.toNat (i))) < B) && okB B (s.drop (Int.toNat (i + 1)))) := by
  have e : s.drop i.toNat = u8 (bt s i.toNat) :: s.drop (i.toNat + 1) := by
    rw [List.drop_eq_getElem_cons (by omega), u8_bt, List.getD_eq_getElem?_getD, List.getElem?_eq_getElem (by omega), Option.getD_some]
  unfold okB
  rw [e, List.all_cons, u8_toNat (bt_lo _ _) (bt_hi _ _), show (i + 1).toNat = i.toNat + 1 by omega]
theorem okB_no {B : Int} {s : LB} {i : Int} {A : Bool} (h0 : 0 ≤ i) (h : i < s.length) (hd : ¬ digI (bt s (Int.toNat (i))) < B) (hA : okB B (s.drop (Int.toNat i)) = A) : A = false := by
  rw [okB_at h0 h, decide_eq_false hd, Bool.false_and] at hA; exact hA.symm
theorem okB_end {B : Int} {s : LB} {i : Int} {A : Bool} (h : (s.length : Int) ≤ i) (hA : okB B (s.drop (Int.toNat i)) = A) : A = true := by
  rw [List.drop_eq_nil_of_le (by omega)] at hA; exact hA.symm
theorem nb_step {B : Int} {s : LB} {i n V : Int} {A : Bool} (hB : B = 10 ∨ B = 16) (hl : s.length ≤ 9) (i0 : 0 ≤ i) (h0 : i < (s.length : Int)) (hd : digI (bt s i.toNat) < B) (i2 : 0 ≤ n) (i3 : n < (16 : Int) ^ i.toNat) (i4 : valF B (s.drop i.toNat) n = V) (i5 : okB B (s.drop (Int.toNat i)) = A) :
    (0 ≤ i + 1) ∧ (i + 1 ≤ (s.length : Int)) ∧ (0 ≤ n * B + digI (bt s i.toNat)) ∧ (n * B + digI (bt s i.toNat) < (16 : Int) ^ (i + 1).toNat) ∧ (valF B (s.drop (i + 1).toNat) (n * B + digI (bt s i.toNat)) = V) ∧ okB B (s.drop (Int.toNat (i + 1))) = A := by
  have e : (i + 1).toNat = i.toNat + 1 := by omega
  have hg := digI_bd (bt s i.toNat)
  have hb := numBd (i := i.toNat) (B := B) hB i2 i3 (by omega)
  refine ⟨by omega, by omega, by omega, ?_, ?_, ?_⟩
  · rw [e]; exact numPow hB i2 i3 hd
  · rw [e, ← valDrop (by omega)]; exact i4
  · rw [okB_at i0 h0, decide_eq_true hd, Bool.true_and] at i5; exact i5
def numB (B : Int) (most : Nat) (s : LB) : Bool := decide (¬ s.length = 0 ∧ s.length ≤ most) && okB B s
def numV (B : Int) (most : Nat) (s : LB) : Int := if numB B most s = true then valF B s 0 else 0
theorem numB_n1 {B : Int} {most : Nat} {s : LB} (h : s.length = 0) : numB B most s = false ∧ numV B most s = 0 := by
  have e : numB B most s = false := by unfold numB; rw [decide_eq_false (by omega), Bool.false_and]
  exact ⟨e, by unfold numV; rw [e]; rfl⟩
theorem numB_n2 {B : Int} {most : Nat} {s : LB} (h : most < s.length) : numB B most s = false ∧ numV B most s = 0 := by
  have e : numB B most s = false := by unfold numB; rw [decide_eq_false (by omega), Bool.false_and]
  exact ⟨e, by unfold numV; rw [e]; rfl⟩
theorem numB_n3 {B : Int} {most : Nat} {s : LB} (h : ¬ okB B s = true) : numB B most s = false ∧ numV B most s = 0 := by
  have e : numB B most s = false := by unfold numB; rw [show okB B s = false from by simpa using h, Bool.and_false]
  exact ⟨e, by unfold numV; rw [e]; rfl⟩
theorem numB_y {B : Int} {most : Nat} {s : LB} (h : ¬ s.length = 0) (h1 : s.length ≤ most) (h2 : okB B s = true) : numB B most s = true ∧ numV B most s = valF B s 0 := by
  have e : numB B most s = true := by unfold numB; rw [decide_eq_true ⟨h, h1⟩, h2]; rfl
  exact ⟨e, by unfold numV; rw [if_pos e]⟩
theorem nmN {B : Int} {most : Nat} {s : LB} (h : s.length = 0 ∨ most < s.length ∨ ¬ okB B s = true) : (.tuple #[.int .i64 (numV B most s), .bool (numB B most s)] : Value) = .tuple #[.int .i64 0, .bool false] := by
  have e : numB B most s = false ∧ numV B most s = 0 := by
    rcases h with h | h | h
    · exact numB_n1 h
    · exact numB_n2 h
    · exact numB_n3 h
  rw [e.1, e.2]
theorem nmY {B : Int} {most : Nat} {s : LB} (h : ¬ s.length = 0) (h1 : s.length ≤ most) (h2 : okB B s = true) : (.tuple #[.int .i64 (numV B most s), .bool (numB B most s)] : Value) = .tuple #[.int .i64 (valF B s 0), .bool true] := by
  rw [(numB_y h h1 h2).1, (numB_y h h1 h2).2]
noncomputable def bodyO10 : Code := loopNo (Tryd.f55.body.getD .skip) 0
theorem keyO10 : oneKey (loopsOf (Tryd.f55.body.getD .skip)) 5 0 0 = true := by kernel_rfl
def keepO10 : List Nat := []
def epO10_0 : LA := [(0, .x 0), (21, .x 1), (8, .x 2), (1, .i .i64 (.ofNat 10)), (20, .x 3)]
def hpO10_0 : LE := []
def nuO10_0 (s : LB) (V : Int) (A : Bool) (i n : Int) : List Value := [St' s, .int .i64 (i), .int .i64 (n), .int .i64 ((s.length : Int)), .int .u8 (bt s (Int.toNat (i))), .int .i64 (vDgt (bt s (Int.toNat (i)))), .int .i64 (n * 10), .int .i64 (n * 10 + (vDgt (bt s (Int.toNat (i))))), .int .i64 (i + 1), .int .u8 (bt s (Int.toNat (i))), .int .i64 (vDgt (bt s (Int.toNat (i))))]
def roO10_0 (s : LB) (V : Int) (A : Bool) (i n : Int) : List Value := []
def epO10 (st : Nat × Int × Int) : LA := epO10_0
def hpO10 (st : Nat × Int × Int) : LE := hpO10_0
def nuO10 (s : LB) (V : Int) (A : Bool) (st : Nat × Int × Int) : List Value := nuO10_0 s V A (st.2.1) (st.2.2)
def roO10 (s : LB) (V : Int) (A : Bool) (st : Nat × Int × Int) : List Value := roO10_0 s V A (st.2.1) (st.2.2)
theorem onO10 (s : LB) (V : Int) (A : Bool) (st : Nat × Int × Int) : ∀ j, (nuL (nuO10 s V A st) j).oneCell' = true := by
  intro j
  unfold nuO10
  exact nuL_one (l := nuO10_0 s V A (st.2.1) (st.2.2)) rfl j
theorem ebO10 (st : Nat × Int × Int) : (lfB (epO10 st) && lfC keepO10) = true := by
  unfold epO10
  rfl
noncomputable def DO10 (s : LB) (V : Int) (A : Bool) (st : Nat × Int × Int) (X : Nat → Value) : Cx := cx (nuX (nuO10 s V A st) (rX (roO10 s V A st) X)) (nuX_one (onO10 s V A st)) 1 laidE laidE_stab
def InvO10 (s : LB) (V : Int) (A : Bool) (st : Nat × Int × Int) : Prop := (0 ≤ (st.2.1)) ∧ ((st.2.1) ≤ (s.length : Int)) ∧ (0 ≤ (st.2.2)) ∧ ((st.2.2) < (16 : Int) ^ (st.2.1).toNat) ∧ (valF 10 (s.drop (st.2.1).toNat) (st.2.2) = V) ∧ (okB 10 (s.drop (Int.toNat (st.2.1))) = A) ∧ ((st.1) < 1)
abbrev CjO10 (s : LB) (V : Int) (A : Bool) (tag : Nat) (i n : Int) : Prop := (0 ≤ i) ∧ (i ≤ (s.length : Int)) ∧ (0 ≤ n) ∧ (n < (16 : Int) ^ i.toNat) ∧ (valF 10 (s.drop i.toNat) n = V) ∧ (okB 10 (s.drop (Int.toNat i)) = A) ∧ (tag < 1)
theorem mkIO10 (s : LB) (V : Int) (A : Bool) (tag : Nat) (i n : Int) (h : CjO10 s V A tag i n) : InvO10 s V A (tag, i, n) := h
theorem unIO10 (s : LB) (V : Int) (A : Bool) (tag : Nat) (i n : Int) (h : InvO10 s V A (tag, i, n)) : (0 ≤ i) ∧ (i ≤ (s.length : Int)) ∧ (0 ≤ n) ∧ (n < (16 : Int) ^ i.toNat) ∧ (valF 10 (s.drop i.toNat) n = V) ∧ (okB 10 (s.drop (Int.toNat i)) = A) ∧ (tag < 1) := h
def muO10 (s : LB) (V : Int) (A : Bool) (st : Nat × Int × Int) : Nat := (s.length - (st.2.1).toNat)
abbrev RHO10 (s : LB) (V : Int) (A : Bool) (E' : Cx) (ex' : Ex) (epx' : LA) (hpx' : LE) (st : Nat × Int × Int) (X : Nat → Value) : Prop := RoundH E' bodyO10 keepO10 38 ex' 7 7 7 7 epO10 hpO10 epx' hpx' (InvO10 s V A) (muO10 s V A) (DO10 s V A) st X
noncomputable abbrev RNO10_0 (h : LK) (x : Ex) (th : LA) (sg : List (Nat × Nat)) (m : Nat) (ep : LA) (hp : LE) : Bool := okRdH (code (tbl h) 900 [] bodyO10 (envOf (headOf epO10_0 keepO10) 38) ⟨lhSet hpO10_0 .leaf, 7, 0, 0⟩) x keepO10 38 7 th sg 7 m ep hp
theorem stO10_0 (s : LB) (V : Int) (A : Bool) (i n : Int) {X : Nat → Value} {h : LK} (y : Nat × Int × Int) {th : LA} {sg : List (Nat × Nat)} (ho : ∀ a' r', (a', r') ∈ h → HOk (cx (nuX (nuO10_0 s V A i n) (rX (roO10_0 s V A i n) X)) (nuX_one (nuL_one (l := nuO10_0 s V A i n) rfl)) 1 laidE laidE_stab) a' r') (hy : InvO10 s V A y) (lt : muO10 s V A y < muO10 s V A (0, i, n)) (ht : ThOk (cx (nuX (nuO10_0 s V A i n) (rX (roO10_0 s V A i n) X)) (nuX_one (nuL_one (l := nuO10_0 s V A i n) rfl)) 1 laidE laidE_stab) (DO10 s V A y X) th) (run : RNO10_0 h .normal th sg 7 (epO10 y) (hpO10 y) = true) : RHO10 s V A E' x' e' h' (0, i, n) X :=
  RoundH.next (tb := tbl h) (L := []) (f := 900) y ((tabkOk _ _).hyps ho) (LpOk.nil _) rfl hy lt ht run
theorem lvO10_0 (s : LB) (V : Int) (A : Bool) (i n : Int) {X : Nat → Value} {h : LK} {th : LA} {sg : List (Nat × Nat)} (hne : exB x' .normal = false) (ho : ∀ a' r', (a', r') ∈ h → HOk (cx (nuX (nuO10_0 s V A i n) (rX (roO10_0 s V A i n) X)) (nuX_one (nuL_one (l := nuO10_0 s V A i n) rfl)) 1 laidE laidE_stab) a' r') (ht : ThOk (cx (nuX (nuO10_0 s V A i n) (rX (roO10_0 s V A i n) X)) (nuX_one (nuL_one (l := nuO10_0 s V A i n) rfl)) 1 laidE laidE_stab) E' th) (run : RNO10_0 h x' th sg 7 e' h' = true) : RHO10 s V A E' x' e' h' (0, i, n) X :=
  RoundH.leave (tb := tbl h) (L := []) (f := 900) ((tabkOk _ _).hyps ho) (LpOk.nil _) rfl hne ht run
def hyO10_p0 : LK := [(.bin .lss (.x 1) (.x 3), .b true), (.idx (.x 0) (.x 1), .x 4), (.call 90 [.x 4], .x 5), (.bin .geq (.x 5) (.i .i64 (.ofNat 10)), .b false), (.bin .mul (.x 2) (.i .i64 (.ofNat 10)), .x 6), (.bin .add (.x 6) (.x 5), .x 7), (.bin .add (.x 1) (.i .i64 (.ofNat 1)), .x 8)]
theorem runO10_p0 : RNO10_0 hyO10_p0 .normal [(0, .x 0), (1, .x 8), (2, .x 7), (3, .x 3)] [] 7 epO10_0 hpO10_0 = true := by kernel_rfl
theorem nxO10_p0 (s : LB) (V : Int) (A : Bool) (c0 : s.length ≤ 9) (i n : Int) (X : Nat → Value) (hI : InvO10 s V A (0, i, n)) (h0 : i < (s.length : Int)) (h1 : ¬ (10 ≤ vDgt (bt s (Int.toNat (i))))) : RHO10 s V A E' x' e' h' (0, i, n) X := by
  obtain ⟨i0, i1, i2, i3, i4, i5, it⟩ := unIO10 s V A 0 i n hI
  have hb : i.toNat ≤ 8 → 0 ≤ n * 10 ∧ n * 10 ≤ 68719476736 ∧ n ≤ 4294967296 := fun h => numBd (i := i.toNat) (B := 10) (.inl rfl) i2 i3 h
  have := bt_lo s (Int.toNat (i)); have := bt_hi s (Int.toNat (i))
  have := rDgt (c := bt s (Int.toNat (i))) (by omega) (by omega)
  have := dgtI (c := bt s (Int.toNat (i))) (by omega) (by omega); have := digI_bd (bt s (Int.toNat (i)))
  refine stO10_0 s V A i n (h := hyO10_p0) (0, (i + 1), n * 10 + (vDgt (bt s (Int.toNat (i))))) ?_ (mkIO10 s V A 0 (i + 1) (n * 10 + (vDgt (bt s (Int.toNat (i))))) (by have D := dgtI (c := bt s (Int.toNat (i))) (bt_lo _ _) (bt_hi _ _); have hN : (n * 10 + (vDgt (bt s (Int.toNat (i)))) : Int) = n * 10 + digI (bt s (Int.toNat (i))) := (by omega); rw [hN]; have E := nb_step (B := 10) (.inl rfl) (by omega) i0 (by omega) (by omega) i2 i3 i4 i5; exact ⟨E.1, E.2.1, E.2.2.1, E.2.2.2.1, E.2.2.2.2.1, E.2.2.2.2.2, by omega⟩)) (by show s.length - (i + 1).toNat < s.length - i.toNat; omega) (thXv (v := St' s) rfl rfl (thXi (b := ((i + 1))) rfl rfl (by omega) (thXi (b := ((n * 10 + (vDgt (bt s (Int.toNat (i))))))) rfl rfl (by omega) (thXv (v := .int .i64 ((s.length : Int))) rfl rfl (thNil))))) runO10_p0
  unfold hyO10_p0
  exact hc (ltT rfl rfl (by omega)) <|
   hc (ixV rfl rfl rfl (by omega)) <|
   hc (hokDgt (isX rfl) (by omega) (by omega) (denX rfl)) <|
   hc (gecF rfl (by omega)) <|
   hc (kMul (isX rfl) (isZ (m := 10) rfl) (denX rfl) (by omega) (fI64 (by omega) (by omega))) <|
   hc (adX rfl rfl rfl (by omega)) <|
   hc (adC rfl rfl (by omega)) <|
   hnil
def hyO10_p1 : LK := [(.bin .lss (.x 1) (.x 3), .b false)]
theorem runO10_p1 : RNO10_0 hyO10_p1 (.exit 0) [(0, .x 2)] [] 7 [(8, .x 0)] [] = true := by kernel_rfl
def hyO10_p2 : LK := [(.bin .lss (.x 1) (.x 3), .b true), (.idx (.x 0) (.x 1), .x 9), (.call 90 [.x 9], .x 10), (.bin .geq (.x 10) (.i .i64 (.ofNat 10)), .b true)]
theorem runO10_p2 : RNO10_0 hyO10_p2 .ret [] [] 7 [(6, .i .i64 (.ofNat 0)), (7, .b false)] [] = true := by kernel_rfl
def nuEO10_0 (s : LB) (V : Int) (A : Bool) : List Value := [.int .i64 (V)]
def roEO10_0 (s : LB) (V : Int) (A : Bool) : List Value := []
noncomputable def EO10_0 (s : LB) (V : Int) (A : Bool) : Cx := cx (nuX (nuEO10_0 s V A) (rX (roEO10_0 s V A) (fun _ => .bool true))) (nuX_one (nuL_one (l := nuEO10_0 s V A) rfl)) 1 laidE laidE_stab
theorem roundsO10_0 (s : LB) (V : Int) (A : Bool) (c0 : s.length ≤ 9) (x0 : A = true) (st : Nat × Int × Int) (X : Nat → Value) (hI : InvO10 s V A st) : RHO10 s V A (EO10_0 s V A) (.exit 0) [(8, .x 0)] [] st X := by
  obtain ⟨tag, i, n⟩ := st
  have hI0 := hI
  obtain ⟨i0, i1, i2, i3, i4, i5, it⟩ := unIO10 s V A tag i n hI
  obtain rfl : tag = 0 := by omega
  skip
  have hb : i.toNat ≤ 8 → 0 ≤ n * 10 ∧ n * 10 ≤ 68719476736 ∧ n ≤ 4294967296 := fun h => numBd (i := i.toNat) (B := 10) (.inl rfl) i2 i3 h
  by_cases h0 : i < (s.length : Int)
  · by_cases h1 : 10 ≤ vDgt (bt s (Int.toNat (i)))
    · exfalso; have e := okB_no (by omega) (by omega) (by have D := dgtI (c := bt s (Int.toNat (i))) (bt_lo _ _) (bt_hi _ _); omega) i5; rw [e] at x0; exact absurd x0 (by simp)
    · exact nxO10_p0 s V A c0 i n X hI0 h0 h1
  · skip
    have hb : i.toNat ≤ 8 → 0 ≤ n * 10 ∧ n * 10 ≤ 68719476736 ∧ n ≤ 4294967296 := fun h => numBd (i := i.toNat) (B := 10) (.inl rfl) i2 i3 h
    refine lvO10_0 s V A i n (h := hyO10_p1) rfl ?_ (thXe (v := .int .i64 (n)) (u := .int .i64 (V)) rfl rfl (congrArg (Value.int .i64) (by rw [← i4]; exact (valEnd (by omega)).symm)) (thNil)) runO10_p1
    unfold hyO10_p1
    exact hc (ltF rfl rfl (by omega)) <|
     hnil
theorem lfOkO10_0 {l : LF} {h : LH} (s : LB) (V : Int) (A : Bool) (c0 : s.length ≤ 9) (x0 : A = true) (st : Nat × Int × Int) (hI : InvO10 s V A st) (hl : l.hp = some h) (hs : lfSame l h 38 keepO10 (.exit 0) 7 7 7 = true) {th0 : LA} {sg0 : List (Nat × Nat)} (hth0 : ∀ X, ThOk (cx nu one 1 laidE laidE_stab) (DO10 s V A st X) th0) (h0 : startOk l h 38 7 7 th0 sg0 (epO10 st) (hpO10 st) = true) {thx : LA} (hthx : ThOk (EO10_0 s V A) (cx nu one 1 laidE laidE_stab) thx) (hx : exitOk l h 38 7 7 thx [(8, .x 0)] [] = true) : LfOk (cx nu one 1 laidE laidE_stab) bodyO10 l :=
  lfOkX (E := EO10_0 s V A) (InvO10 s V A) (muO10 s V A) (DO10 s V A) (fun _ _ => rfl) (fun _ _ => rfl) (fun _ _ => rfl) (fun st X t ht => nuX_keep.trans (rX_keep ((by decide : ∀ t, t ∈ keepO10 → t < 1000000) t ht))) rfl rfl rfl hl hs ebO10 rfl rfl st hI hth0 h0 hthx hx (roundsO10_0 s V A c0 x0)
def nuEO10_1 (s : LB) (V : Int) (A : Bool) : List Value := []
def roEO10_1 (s : LB) (V : Int) (A : Bool) : List Value := []
noncomputable def EO10_1 (s : LB) (V : Int) (A : Bool) : Cx := cx (nuX (nuEO10_1 s V A) (rX (roEO10_1 s V A) (fun _ => .bool true))) (nuX_one (nuL_one (l := nuEO10_1 s V A) rfl)) 1 laidE laidE_stab
theorem roundsO10_1 (s : LB) (V : Int) (A : Bool) (c0 : s.length ≤ 9) (x0 : A = false) (st : Nat × Int × Int) (X : Nat → Value) (hI : InvO10 s V A st) : RHO10 s V A (EO10_1 s V A) .ret [(6, .i .i64 (.ofNat 0)), (7, .b false)] [] st X := by
  obtain ⟨tag, i, n⟩ := st
  have hI0 := hI
  obtain ⟨i0, i1, i2, i3, i4, i5, it⟩ := unIO10 s V A tag i n hI
  obtain rfl : tag = 0 := by omega
  skip
  have hb : i.toNat ≤ 8 → 0 ≤ n * 10 ∧ n * 10 ≤ 68719476736 ∧ n ≤ 4294967296 := fun h => numBd (i := i.toNat) (B := 10) (.inl rfl) i2 i3 h
  by_cases h0 : i < (s.length : Int)
  · by_cases h1 : 10 ≤ vDgt (bt s (Int.toNat (i)))
    · skip
      have hb : i.toNat ≤ 8 → 0 ≤ n * 10 ∧ n * 10 ≤ 68719476736 ∧ n ≤ 4294967296 := fun h => numBd (i := i.toNat) (B := 10) (.inl rfl) i2 i3 h
      have := bt_lo s (Int.toNat (i)); have := bt_hi s (Int.toNat (i))
      have := rDgt (c := bt s (Int.toNat (i))) (by omega) (by omega)
      have := dgtI (c := bt s (Int.toNat (i))) (by omega) (by omega); have := digI_bd (bt s (Int.toNat (i)))
      refine lvO10_0 s V A i n (h := hyO10_p2) rfl ?_ (thNil) runO10_p2
      unfold hyO10_p2
      exact hc (ltT rfl rfl (by omega)) <|
       hc (ixV rfl rfl rfl (by omega)) <|
       hc (hokDgt (isX rfl) (by omega) (by omega) (denX rfl)) <|
       hc (gecT rfl (by omega)) <|
       hnil
    · exact nxO10_p0 s V A c0 i n X hI0 h0 h1
  · exfalso; have e := okB_end (by omega) i5; rw [e] at x0; exact absurd x0 (by simp)
theorem lfOkO10_1 {l : LF} {h : LH} (s : LB) (V : Int) (A : Bool) (c0 : s.length ≤ 9) (x0 : A = false) (st : Nat × Int × Int) (hI : InvO10 s V A st) (hl : l.hp = some h) (hs : lfSame l h 38 keepO10 .ret 7 7 7 = true) {th0 : LA} {sg0 : List (Nat × Nat)} (hth0 : ∀ X, ThOk (cx nu one 1 laidE laidE_stab) (DO10 s V A st X) th0) (h0 : startOk l h 38 7 7 th0 sg0 (epO10 st) (hpO10 st) = true) {thx : LA} (hthx : ThOk (EO10_1 s V A) (cx nu one 1 laidE laidE_stab) thx) (hx : exitOk l h 38 7 7 thx [(6, .i .i64 (.ofNat 0)), (7, .b false)] [] = true) : LfOk (cx nu one 1 laidE laidE_stab) bodyO10 l :=
  lfOkX (E := EO10_1 s V A) (InvO10 s V A) (muO10 s V A) (DO10 s V A) (fun _ _ => rfl) (fun _ _ => rfl) (fun _ _ => rfl) (fun st X t ht => nuX_keep.trans (rX_keep ((by decide : ∀ t, t ∈ keepO10 → t < 1000000) t ht))) rfl rfl rfl hl hs ebO10 rfl rfl st hI hth0 h0 hthx hx (roundsO10_1 s V A c0 x0)
noncomputable def fi55 : FI := (tabk.fn.get 55).getD default
theorem fi55_at : tabk.fn.get 55 = some fi55 := by kernel_rfl
theorem fi55_body : fi55.body = some (Tryd.f55.body.getD .skip) := by kernel_rfl
theorem fiB55 : fi55.body.isSome = true := by rw [fi55_body]; rfl
theorem fiNNmO10 : tabk.fn.get 55 = some (fI Tryd.f55 0) ∧ (fI Tryd.f55 0).body.isSome = true := ⟨rfl, by kernel_rfl⟩
def hyNmO10_0 : LK := [(.bin .eql (.x 0) (.s 0 0), .b true)]
theorem runNmO10_0 (e : Nat) : okA (call (tbl hyNmO10_0) 9000 55 [.x 0, .i .i64 (.ofNat 10), .i .i64 (.ofNat 9)] ⟨H0 e , 7, 0, 0⟩) (.tu [.i .i64 (.ofNat 0), .b false]) = true := by kernel_rfl
def nuNmO10_0 (s : LB) : List Value := [St' s]
theorem pathNmO10_0 (s : LB) (b0 : s.length ≤ 9223372036854775807) (h0 : (s.length : Int) = 0) (w : World) (hl : laidE w) : CwR 55 #[St' s, .int .i64 10, .int .i64 9] w (.tuple #[.int .i64 0, .bool false]) := by
  have ho : ∀ k r, (k, r) ∈ hyNmO10_0 → HOk (cx (nuL (nuNmO10_0 s)) (fun j _ => nuL_one (l := nuNmO10_0 s) rfl j) 1 laidE laidE_stab) k r := by
    unfold hyNmO10_0
    exact hc (kEqS (isX rfl) (isSx (l := ([] : LB)) 0 0 rfl) (nilT (by omega))) <|
     hnil
  refine runC (tb := (tbl hyNmO10_0)) (ra := .tu [.i .i64 (.ofNat 0), .b false]) rfl ((tabkOk (nuL (nuNmO10_0 s)) (fun j _ => nuL_one (l := nuNmO10_0 s) rfl j)).hyps ho) rfl fiNNmO10.1 fiNNmO10.2 (fun e => runNmO10_0 e ) (args := [St' s, .int .i64 10, .int .i64 9]) (by simp only [RelL, Rel]; exact ⟨_, _, rfl, rfl, ⟨_, _, rfl, rfl, ⟨_, _, rfl, rfl, rfl⟩⟩⟩) w hl fun x hx => ?_
  simp only [Rel, RelL] at hx
  obtain ⟨_, rfl, ⟨_, _, rfl, rfl, ⟨_, _, rfl, rfl, rfl⟩⟩⟩ := hx
  rfl
def hyNmO10_1 : LK := [(.bin .eql (.x 0) (.s 0 0), .b false), (.len (.x 0), .x 1), (.bin .gtr (.x 1) (.i .i64 (.ofNat 9)), .b true)]
theorem runNmO10_1 (e : Nat) : okA (call (tbl hyNmO10_1) 9000 55 [.x 0, .i .i64 (.ofNat 10), .i .i64 (.ofNat 9)] ⟨H0 e , 7, 0, 0⟩) (.tu [.i .i64 (.ofNat 0), .b false]) = true := by kernel_rfl
def nuNmO10_1 (s : LB) : List Value := [St' s, .int .i64 ((s.length : Int))]
theorem pathNmO10_1 (s : LB) (b0 : s.length ≤ 9223372036854775807) (h0 : ¬ ((s.length : Int) = 0)) (h1 : 9 < (s.length : Int)) (w : World) (hl : laidE w) : CwR 55 #[St' s, .int .i64 10, .int .i64 9] w (.tuple #[.int .i64 0, .bool false]) := by
  have ho : ∀ k r, (k, r) ∈ hyNmO10_1 → HOk (cx (nuL (nuNmO10_1 s)) (fun j _ => nuL_one (l := nuNmO10_1 s) rfl j) 1 laidE laidE_stab) k r := by
    unfold hyNmO10_1
    exact hc (kEqS (isX rfl) (isSx (l := ([] : LB)) 0 0 rfl) (nilF (by omega))) <|
     hc (lnV rfl rfl (by omega)) <|
     hc (gtcT rfl (by omega)) <|
     hnil
  refine runC (tb := (tbl hyNmO10_1)) (ra := .tu [.i .i64 (.ofNat 0), .b false]) rfl ((tabkOk (nuL (nuNmO10_1 s)) (fun j _ => nuL_one (l := nuNmO10_1 s) rfl j)).hyps ho) rfl fiNNmO10.1 fiNNmO10.2 (fun e => runNmO10_1 e ) (args := [St' s, .int .i64 10, .int .i64 9]) (by simp only [RelL, Rel]; exact ⟨_, _, rfl, rfl, ⟨_, _, rfl, rfl, ⟨_, _, rfl, rfl, rfl⟩⟩⟩) w hl fun x hx => ?_
  simp only [Rel, RelL] at hx
  obtain ⟨_, rfl, ⟨_, _, rfl, rfl, ⟨_, _, rfl, rfl, rfl⟩⟩⟩ := hx
  rfl
def hyNmO10_2 : LK := [(.bin .eql (.x 0) (.s 0 0), .b false), (.len (.x 0), .x 1), (.bin .gtr (.x 1) (.i .i64 (.ofNat 9)), .b false)]
def lh16 : LH := ⟨7, 7, 7, [], []⟩
def lf16 : LF := ⟨5, 38, [(0, .x 0), (21, .i .i64 (.ofNat 0)), (8, .i .i64 (.ofNat 0)), (1, .i .i64 (.ofNat 10)), (20, .x 1)], [], (.exit 0), [(8, .x 2)], some lh16⟩
noncomputable def tabNmO10_2 : Tab := addLps ({ tabk with hyp := hyNmO10_2 }) 55 fi55 [lf16]
theorem runNmO10_2 (e : Nat) : okA (call tabNmO10_2 9000 55 [.x 0, .i .i64 (.ofNat 10), .i .i64 (.ofNat 9)] ⟨H0 e , 7, 0, 0⟩) (.tu [.x 2, .b true]) = true := by kernel_rfl
def nuNmO10_2 (s : LB) : List Value := [St' s, .int .i64 ((s.length : Int)), .int .i64 ((valF 10 s 0))]
theorem pathNmO10_2 (s : LB) (b0 : s.length ≤ 9223372036854775807) (h0 : ¬ ((s.length : Int) = 0)) (h1 : ¬ (9 < (s.length : Int))) (h2 : okB 10 s = true) (w : World) (hl : laidE w) : CwR 55 #[St' s, .int .i64 10, .int .i64 9] w (.tuple #[.int .i64 ((valF 10 s 0)), .bool true]) := by
  have ho : ∀ k r, (k, r) ∈ hyNmO10_2 → HOk (cx (nuL (nuNmO10_2 s)) (fun j _ => nuL_one (l := nuNmO10_2 s) rfl j) 1 laidE laidE_stab) k r := by
    unfold hyNmO10_2
    exact hc (kEqS (isX rfl) (isSx (l := ([] : LB)) 0 0 rfl) (nilF (by omega))) <|
     hc (lnV rfl rfl (by omega)) <|
     hc (gtcF rfl (by omega)) <|
     hnil
  refine runC (tb := tabNmO10_2) (ra := .tu [.x 2, .b true]) rfl (AllOk.lp1 ((tabkOk (nuL (nuNmO10_2 s)) (fun j _ => nuL_one (l := nuNmO10_2 s) rfl j)).hyps ho) (by omega) fi55_at fi55_body (lfCons (lpKnown rfl ⟨0, keyO10, lfOkO10_0 (l := lf16) (h := lh16) s (valF 10 s 0) (okB 10 s) (by omega) (by assumption) (0, (0 : Int), (0 : Int)) (mkIO10 s (valF 10 s 0) (okB 10 s) 0 (0 : Int) (0 : Int) ⟨by omega, by omega, by omega, by decide, rfl, rfl, by omega⟩) rfl (by kernel_rfl) (th0 := [(0, .x 0), (1, .i .i64 (.ofNat 0)), (2, .i .i64 (.ofNat 0)), (3, .x 1)]) (sg0 := []) (fun X => thXv (v := St' s) rfl rfl (thCons (show Is _ (.i .i64 (.ofNat 0)) (.int .i64 ((0 : Int))) from isTo (v := .int .i64 0) (isI _ _) (by first | rfl | (congr 1; omega))) (thCons (show Is _ (.i .i64 (.ofNat 0)) (.int .i64 ((0 : Int))) from isTo (v := .int .i64 0) (isI _ _) (by first | rfl | (congr 1; omega))) (thXv (v := .int .i64 ((s.length : Int))) rfl rfl (thNil))))) (by kernel_rfl) (thx := [(2, .x 0)]) (thXv (v := .int .i64 ((valF 10 s 0))) rfl rfl (thNil)) (by kernel_rfl)⟩) lfNil)) rfl (get_lps (by omega)) fiB55 (fun e => runNmO10_2 e ) (args := [St' s, .int .i64 10, .int .i64 9]) (by simp only [RelL, Rel]; exact ⟨_, _, rfl, rfl, ⟨_, _, rfl, rfl, ⟨_, _, rfl, rfl, rfl⟩⟩⟩) w hl fun x hx => ?_
  simp only [Rel, RelL] at hx
  obtain ⟨_, rfl, ⟨_, _, rfl, rfl, ⟨_, _, rfl, rfl, rfl⟩⟩⟩ := hx
  rfl
def hyNmO10_3 : LK := [(.bin .eql (.x 0) (.s 0 0), .b false), (.len (.x 0), .x 1), (.bin .gtr (.x 1) (.i .i64 (.ofNat 9)), .b false)]
def lh17 : LH := ⟨7, 7, 7, [], []⟩
def lf17 : LF := ⟨5, 38, [(0, .x 0), (21, .i .i64 (.ofNat 0)), (8, .i .i64 (.ofNat 0)), (1, .i .i64 (.ofNat 10)), (20, .x 1)], [], .ret, [(6, .i .i64 (.ofNat 0)), (7, .b false)], some lh17⟩
noncomputable def tabNmO10_3 : Tab := addLps ({ tabk with hyp := hyNmO10_3 }) 55 fi55 [lf17]
theorem runNmO10_3 (e : Nat) : okA (call tabNmO10_3 9000 55 [.x 0, .i .i64 (.ofNat 10), .i .i64 (.ofNat 9)] ⟨H0 e , 7, 0, 0⟩) (.tu [.i .i64 (.ofNat 0), .b false]) = true := by kernel_rfl
def nuNmO10_3 (s : LB) : List Value := [St' s, .int .i64 ((s.length : Int))]
theorem pathNmO10_3 (s : LB) (b0 : s.length ≤ 9223372036854775807) (h0 : ¬ ((s.length : Int) = 0)) (h1 : ¬ (9 < (s.length : Int))) (h2 : ¬ (okB 10 s = true)) (w : World) (hl : laidE w) : CwR 55 #[St' s, .int .i64 10, .int .i64 9] w (.tuple #[.int .i64 0, .bool false]) := by
  have ho : ∀ k r, (k, r) ∈ hyNmO10_3 → HOk (cx (nuL (nuNmO10_3 s)) (fun j _ => nuL_one (l := nuNmO10_3 s) rfl j) 1 laidE laidE_stab) k r := by
    unfold hyNmO10_3
    exact hc (kEqS (isX rfl) (isSx (l := ([] : LB)) 0 0 rfl) (nilF (by omega))) <|
     hc (lnV rfl rfl (by omega)) <|
     hc (gtcF rfl (by omega)) <|
     hnil
  refine runC (tb := tabNmO10_3) (ra := .tu [.i .i64 (.ofNat 0), .b false]) rfl (AllOk.lp1 ((tabkOk (nuL (nuNmO10_3 s)) (fun j _ => nuL_one (l := nuNmO10_3 s) rfl j)).hyps ho) (by omega) fi55_at fi55_body (lfCons (lpKnown rfl ⟨0, keyO10, lfOkO10_1 (l := lf17) (h := lh17) s (valF 10 s 0) (okB 10 s) (by omega) (by simpa using (by assumption : ¬ (okB 10 s = true))) (0, (0 : Int), (0 : Int)) (mkIO10 s (valF 10 s 0) (okB 10 s) 0 (0 : Int) (0 : Int) ⟨by omega, by omega, by omega, by decide, rfl, rfl, by omega⟩) rfl (by kernel_rfl) (th0 := [(0, .x 0), (1, .i .i64 (.ofNat 0)), (2, .i .i64 (.ofNat 0)), (3, .x 1)]) (sg0 := []) (fun X => thXv (v := St' s) rfl rfl (thCons (show Is _ (.i .i64 (.ofNat 0)) (.int .i64 ((0 : Int))) from isTo (v := .int .i64 0) (isI _ _) (by first | rfl | (congr 1; omega))) (thCons (show Is _ (.i .i64 (.ofNat 0)) (.int .i64 ((0 : Int))) from isTo (v := .int .i64 0) (isI _ _) (by first | rfl | (congr 1; omega))) (thXv (v := .int .i64 ((s.length : Int))) rfl rfl (thNil))))) (by kernel_rfl) (thx := []) (thNil) (by kernel_rfl)⟩) lfNil)) rfl (get_lps (by omega)) fiB55 (fun e => runNmO10_3 e ) (args := [St' s, .int .i64 10, .int .i64 9]) (by simp only [RelL, Rel]; exact ⟨_, _, rfl, rfl, ⟨_, _, rfl, rfl, ⟨_, _, rfl, rfl, rfl⟩⟩⟩) w hl fun x hx => ?_
  simp only [Rel, RelL] at hx
  obtain ⟨_, rfl, ⟨_, _, rfl, rfl, ⟨_, _, rfl, rfl, rfl⟩⟩⟩ := hx
  rfl
theorem callsNmO10 (s : LB) (b0 : s.length ≤ 9223372036854775807) (w : World) (hl : laidE w) : CwR 55 #[St' s, .int .i64 10, .int .i64 9] w (.tuple #[.int .i64 (numV 10 9 s), .bool (numB 10 9 s)]) := by
  by_cases h0 : (s.length : Int) = 0
  · rw [show (.tuple #[.int .i64 (numV 10 9 s), .bool (numB 10 9 s)] : Value) = (.tuple #[.int .i64 0, .bool false] : Value) from by first | exact nmN (.inl (by omega)) | exact nmN (.inr (.inl (by omega))) | exact nmN (.inr (.inr (by assumption))) | exact nmY (by omega) (by omega) (by assumption)]
    exact pathNmO10_0 s b0 h0 w hl
  · by_cases h1 : 9 < (s.length : Int)
    · rw [show (.tuple #[.int .i64 (numV 10 9 s), .bool (numB 10 9 s)] : Value) = (.tuple #[.int .i64 0, .bool false] : Value) from by first | exact nmN (.inl (by omega)) | exact nmN (.inr (.inl (by omega))) | exact nmN (.inr (.inr (by assumption))) | exact nmY (by omega) (by omega) (by assumption)]
      exact pathNmO10_1 s b0 h0 h1 w hl
    · by_cases h2 : okB 10 s = true
      · rw [show (.tuple #[.int .i64 (numV 10 9 s), .bool (numB 10 9 s)] : Value) = (.tuple #[.int .i64 ((valF 10 s 0)), .bool true] : Value) from by first | exact nmN (.inl (by omega)) | exact nmN (.inr (.inl (by omega))) | exact nmN (.inr (.inr (by assumption))) | exact nmY (by omega) (by omega) (by assumption)]
        exact pathNmO10_2 s b0 h0 h1 h2 w hl
      · rw [show (.tuple #[.int .i64 (numV 10 9 s), .bool (numB 10 9 s)] : Value) = (.tuple #[.int .i64 0, .bool false] : Value) from by first | exact nmN (.inl (by omega)) | exact nmN (.inr (.inl (by omega))) | exact nmN (.inr (.inr (by assumption))) | exact nmY (by omega) (by omega) (by assumption)]
        exact pathNmO10_3 s b0 h0 h1 h2 w hl
theorem hokNmO10 {x0 x1 x2 r : AV} {s : LB} (i0 : Is (cx nu one 1 laidE laidE_stab) x0 (St' s)) (i1 : Is (cx nu one 1 laidE laidE_stab) x1 (.int .i64 10)) (i2 : Is (cx nu one 1 laidE laidE_stab) x2 (.int .i64 9)) (hr : Den (cx nu one 1 laidE laidE_stab) r (.tuple #[.int .i64 (numV 10 9 s), .bool (numB 10 9 s)])) (b0 : s.length ≤ 9223372036854775807) : HOk (cx nu one 1 laidE laidE_stab) (.call 55 [x0, x1, x2]) r := by
  intro ρ args ha w hl _
  simp only [RelL] at ha
  obtain ⟨v0, t0, rfl, a0, v1, t1, rfl, a1, v2, t2, rfl, a2, rfl⟩ := ha
  have e0 := i0 ρ _ a0; subst e0
  have e1 := i1 ρ _ a1; subst e1
  have e2 := i2 ρ _ a2; subst e2
  exact (callsNmO10 s b0 w hl).mono fun e w' he => ⟨_, he.1, hr ρ, he.2⟩
noncomputable def bodyO16 : Code := loopNo (Tryd.f55.body.getD .skip) 0
theorem keyO16 : oneKey (loopsOf (Tryd.f55.body.getD .skip)) 5 0 0 = true := by kernel_rfl
def keepO16 : List Nat := []
def epO16_0 : LA := [(0, .x 0), (21, .x 1), (8, .x 2), (1, .i .i64 (.ofNat 16)), (20, .x 3)]
def hpO16_0 : LE := []
def nuO16_0 (s : LB) (V : Int) (A : Bool) (i n : Int) : List Value := [St' s, .int .i64 (i), .int .i64 (n), .int .i64 ((s.length : Int)), .int .u8 (bt s (Int.toNat (i))), .int .i64 (vDgt (bt s (Int.toNat (i)))), .int .i64 (n * 16), .int .i64 (n * 16 + (vDgt (bt s (Int.toNat (i))))), .int .i64 (i + 1), .int .u8 (bt s (Int.toNat (i))), .int .i64 (vDgt (bt s (Int.toNat (i))))]
def roO16_0 (s : LB) (V : Int) (A : Bool) (i n : Int) : List Value := []
def epO16 (st : Nat × Int × Int) : LA := epO16_0
def hpO16 (st : Nat × Int × Int) : LE := hpO16_0
def nuO16 (s : LB) (V : Int) (A : Bool) (st : Nat × Int × Int) : List Value := nuO16_0 s V A (st.2.1) (st.2.2)
def roO16 (s : LB) (V : Int) (A : Bool) (st : Nat × Int × Int) : List Value := roO16_0 s V A (st.2.1) (st.2.2)
theorem onO16 (s : LB) (V : Int) (A : Bool) (st : Nat × Int × Int) : ∀ j, (nuL (nuO16 s V A st) j).oneCell' = true := by
  intro j
  unfold nuO16
  exact nuL_one (l := nuO16_0 s V A (st.2.1) (st.2.2)) rfl j
theorem ebO16 (st : Nat × Int × Int) : (lfB (epO16 st) && lfC keepO16) = true := by
  unfold epO16
  rfl
noncomputable def DO16 (s : LB) (V : Int) (A : Bool) (st : Nat × Int × Int) (X : Nat → Value) : Cx := cx (nuX (nuO16 s V A st) (rX (roO16 s V A st) X)) (nuX_one (onO16 s V A st)) 1 laidE laidE_stab
def InvO16 (s : LB) (V : Int) (A : Bool) (st : Nat × Int × Int) : Prop := (0 ≤ (st.2.1)) ∧ ((st.2.1) ≤ (s.length : Int)) ∧ (0 ≤ (st.2.2)) ∧ ((st.2.2) < (16 : Int) ^ (st.2.1).toNat) ∧ (valF 16 (s.drop (st.2.1).toNat) (st.2.2) = V) ∧ (okB 16 (s.drop (Int.toNat (st.2.1))) = A) ∧ ((st.1) < 1)
abbrev CjO16 (s : LB) (V : Int) (A : Bool) (tag : Nat) (i n : Int) : Prop := (0 ≤ i) ∧ (i ≤ (s.length : Int)) ∧ (0 ≤ n) ∧ (n < (16 : Int) ^ i.toNat) ∧ (valF 16 (s.drop i.toNat) n = V) ∧ (okB 16 (s.drop (Int.toNat i)) = A) ∧ (tag < 1)
theorem mkIO16 (s : LB) (V : Int) (A : Bool) (tag : Nat) (i n : Int) (h : CjO16 s V A tag i n) : InvO16 s V A (tag, i, n) := h
theorem unIO16 (s : LB) (V : Int) (A : Bool) (tag : Nat) (i n : Int) (h : InvO16 s V A (tag, i, n)) : (0 ≤ i) ∧ (i ≤ (s.length : Int)) ∧ (0 ≤ n) ∧ (n < (16 : Int) ^ i.toNat) ∧ (valF 16 (s.drop i.toNat) n = V) ∧ (okB 16 (s.drop (Int.toNat i)) = A) ∧ (tag < 1) := h
def muO16 (s : LB) (V : Int) (A : Bool) (st : Nat × Int × Int) : Nat := (s.length - (st.2.1).toNat)
abbrev RHO16 (s : LB) (V : Int) (A : Bool) (E' : Cx) (ex' : Ex) (epx' : LA) (hpx' : LE) (st : Nat × Int × Int) (X : Nat → Value) : Prop := RoundH E' bodyO16 keepO16 38 ex' 7 7 7 7 epO16 hpO16 epx' hpx' (InvO16 s V A) (muO16 s V A) (DO16 s V A) st X
noncomputable abbrev RNO16_0 (h : LK) (x : Ex) (th : LA) (sg : List (Nat × Nat)) (m : Nat) (ep : LA) (hp : LE) : Bool := okRdH (code (tbl h) 900 [] bodyO16 (envOf (headOf epO16_0 keepO16) 38) ⟨lhSet hpO16_0 .leaf, 7, 0, 0⟩) x keepO16 38 7 th sg 7 m ep hp
theorem stO16_0 (s : LB) (V : Int) (A : Bool) (i n : Int) {X : Nat → Value} {h : LK} (y : Nat × Int × Int) {th : LA} {sg : List (Nat × Nat)} (ho : ∀ a' r', (a', r') ∈ h → HOk (cx (nuX (nuO16_0 s V A i n) (rX (roO16_0 s V A i n) X)) (nuX_one (nuL_one (l := nuO16_0 s V A i n) rfl)) 1 laidE laidE_stab) a' r') (hy : InvO16 s V A y) (lt : muO16 s V A y < muO16 s V A (0, i, n)) (ht : ThOk (cx (nuX (nuO16_0 s V A i n) (rX (roO16_0 s V A i n) X)) (nuX_one (nuL_one (l := nuO16_0 s V A i n) rfl)) 1 laidE laidE_stab) (DO16 s V A y X) th) (run : RNO16_0 h .normal th sg 7 (epO16 y) (hpO16 y) = true) : RHO16 s V A E' x' e' h' (0, i, n) X :=
  RoundH.next (tb := tbl h) (L := []) (f := 900) y ((tabkOk _ _).hyps ho) (LpOk.nil _) rfl hy lt ht run
theorem lvO16_0 (s : LB) (V : Int) (A : Bool) (i n : Int) {X : Nat → Value} {h : LK} {th : LA} {sg : List (Nat × Nat)} (hne : exB x' .normal = false) (ho : ∀ a' r', (a', r') ∈ h → HOk (cx (nuX (nuO16_0 s V A i n) (rX (roO16_0 s V A i n) X)) (nuX_one (nuL_one (l := nuO16_0 s V A i n) rfl)) 1 laidE laidE_stab) a' r') (ht : ThOk (cx (nuX (nuO16_0 s V A i n) (rX (roO16_0 s V A i n) X)) (nuX_one (nuL_one (l := nuO16_0 s V A i n) rfl)) 1 laidE laidE_stab) E' th) (run : RNO16_0 h x' th sg 7 e' h' = true) : RHO16 s V A E' x' e' h' (0, i, n) X :=
  RoundH.leave (tb := tbl h) (L := []) (f := 900) ((tabkOk _ _).hyps ho) (LpOk.nil _) rfl hne ht run
def hyO16_p0 : LK := [(.bin .lss (.x 1) (.x 3), .b true), (.idx (.x 0) (.x 1), .x 4), (.call 90 [.x 4], .x 5), (.bin .geq (.x 5) (.i .i64 (.ofNat 16)), .b false), (.bin .mul (.x 2) (.i .i64 (.ofNat 16)), .x 6), (.bin .add (.x 6) (.x 5), .x 7), (.bin .add (.x 1) (.i .i64 (.ofNat 1)), .x 8)]
theorem runO16_p0 : RNO16_0 hyO16_p0 .normal [(0, .x 0), (1, .x 8), (2, .x 7), (3, .x 3)] [] 7 epO16_0 hpO16_0 = true := by kernel_rfl
theorem nxO16_p0 (s : LB) (V : Int) (A : Bool) (c0 : s.length ≤ 7) (i n : Int) (X : Nat → Value) (hI : InvO16 s V A (0, i, n)) (h0 : i < (s.length : Int)) (h1 : ¬ (16 ≤ vDgt (bt s (Int.toNat (i))))) : RHO16 s V A E' x' e' h' (0, i, n) X := by
  obtain ⟨i0, i1, i2, i3, i4, i5, it⟩ := unIO16 s V A 0 i n hI
  have hb : i.toNat ≤ 8 → 0 ≤ n * 16 ∧ n * 16 ≤ 68719476736 ∧ n ≤ 4294967296 := fun h => numBd (i := i.toNat) (B := 16) (.inr rfl) i2 i3 h
  have := bt_lo s (Int.toNat (i)); have := bt_hi s (Int.toNat (i))
  have := rDgt (c := bt s (Int.toNat (i))) (by omega) (by omega)
  have := dgtI (c := bt s (Int.toNat (i))) (by omega) (by omega); have := digI_bd (bt s (Int.toNat (i)))
  refine stO16_0 s V A i n (h := hyO16_p0) (0, (i + 1), n * 16 + (vDgt (bt s (Int.toNat (i))))) ?_ (mkIO16 s V A 0 (i + 1) (n * 16 + (vDgt (bt s (Int.toNat (i))))) (by have D := dgtI (c := bt s (Int.toNat (i))) (bt_lo _ _) (bt_hi _ _); have hN : (n * 16 + (vDgt (bt s (Int.toNat (i)))) : Int) = n * 16 + digI (bt s (Int.toNat (i))) := (by omega); rw [hN]; have E := nb_step (B := 16) (.inr rfl) (by omega) i0 (by omega) (by omega) i2 i3 i4 i5; exact ⟨E.1, E.2.1, E.2.2.1, E.2.2.2.1, E.2.2.2.2.1, E.2.2.2.2.2, by omega⟩)) (by show s.length - (i + 1).toNat < s.length - i.toNat; omega) (thXv (v := St' s) rfl rfl (thXi (b := ((i + 1))) rfl rfl (by omega) (thXi (b := ((n * 16 + (vDgt (bt s (Int.toNat (i))))))) rfl rfl (by omega) (thXv (v := .int .i64 ((s.length : Int))) rfl rfl (thNil))))) runO16_p0
  unfold hyO16_p0
  exact hc (ltT rfl rfl (by omega)) <|
   hc (ixV rfl rfl rfl (by omega)) <|
   hc (hokDgt (isX rfl) (by omega) (by omega) (denX rfl)) <|
   hc (gecF rfl (by omega)) <|
   hc (kMul (isX rfl) (isZ (m := 16) rfl) (denX rfl) (by omega) (fI64 (by omega) (by omega))) <|
   hc (adX rfl rfl rfl (by omega)) <|
   hc (adC rfl rfl (by omega)) <|
   hnil
def hyO16_p1 : LK := [(.bin .lss (.x 1) (.x 3), .b false)]
theorem runO16_p1 : RNO16_0 hyO16_p1 (.exit 0) [(0, .x 2)] [] 7 [(8, .x 0)] [] = true := by kernel_rfl
def hyO16_p2 : LK := [(.bin .lss (.x 1) (.x 3), .b true), (.idx (.x 0) (.x 1), .x 9), (.call 90 [.x 9], .x 10), (.bin .geq (.x 10) (.i .i64 (.ofNat 16)), .b true)]
theorem runO16_p2 : RNO16_0 hyO16_p2 .ret [] [] 7 [(6, .i .i64 (.ofNat 0)), (7, .b false)] [] = true := by kernel_rfl
def nuEO16_0 (s : LB) (V : Int) (A : Bool) : List Value := [.int .i64 (V)]
def roEO16_0 (s : LB) (V : Int) (A : Bool) : List Value := []
noncomputable def EO16_0 (s : LB) (V : Int) (A : Bool) : Cx := cx (nuX (nuEO16_0 s V A) (rX (roEO16_0 s V A) (fun _ => .bool true))) (nuX_one (nuL_one (l := nuEO16_0 s V A) rfl)) 1 laidE laidE_stab
theorem roundsO16_0 (s : LB) (V : Int) (A : Bool) (c0 : s.length ≤ 7) (x0 : A = true) (st : Nat × Int × Int) (X : Nat → Value) (hI : InvO16 s V A st) : RHO16 s V A (EO16_0 s V A) (.exit 0) [(8, .x 0)] [] st X := by
  obtain ⟨tag, i, n⟩ := st
  have hI0 := hI
  obtain ⟨i0, i1, i2, i3, i4, i5, it⟩ := unIO16 s V A tag i n hI
  obtain rfl : tag = 0 := by omega
  skip
  have hb : i.toNat ≤ 8 → 0 ≤ n * 16 ∧ n * 16 ≤ 68719476736 ∧ n ≤ 4294967296 := fun h => numBd (i := i.toNat) (B := 16) (.inr rfl) i2 i3 h
  by_cases h0 : i < (s.length : Int)
  · by_cases h1 : 16 ≤ vDgt (bt s (Int.toNat (i)))
    · exfalso; have e := okB_no (by omega) (by omega) (by have D := dgtI (c := bt s (Int.toNat (i))) (bt_lo _ _) (bt_hi _ _); omega) i5; rw [e] at x0; exact absurd x0 (by simp)
    · exact nxO16_p0 s V A c0 i n X hI0 h0 h1
  · skip
    have hb : i.toNat ≤ 8 → 0 ≤ n * 16 ∧ n * 16 ≤ 68719476736 ∧ n ≤ 4294967296 := fun h => numBd (i := i.toNat) (B := 16) (.inr rfl) i2 i3 h
    refine lvO16_0 s V A i n (h := hyO16_p1) rfl ?_ (thXe (v := .int .i64 (n)) (u := .int .i64 (V)) rfl rfl (congrArg (Value.int .i64) (by rw [← i4]; exact (valEnd (by omega)).symm)) (thNil)) runO16_p1
    unfold hyO16_p1
    exact hc (ltF rfl rfl (by omega)) <|
     hnil
theorem lfOkO16_0 {l : LF} {h : LH} (s : LB) (V : Int) (A : Bool) (c0 : s.length ≤ 7) (x0 : A = true) (st : Nat × Int × Int) (hI : InvO16 s V A st) (hl : l.hp = some h) (hs : lfSame l h 38 keepO16 (.exit 0) 7 7 7 = true) {th0 : LA} {sg0 : List (Nat × Nat)} (hth0 : ∀ X, ThOk (cx nu one 1 laidE laidE_stab) (DO16 s V A st X) th0) (h0 : startOk l h 38 7 7 th0 sg0 (epO16 st) (hpO16 st) = true) {thx : LA} (hthx : ThOk (EO16_0 s V A) (cx nu one 1 laidE laidE_stab) thx) (hx : exitOk l h 38 7 7 thx [(8, .x 0)] [] = true) : LfOk (cx nu one 1 laidE laidE_stab) bodyO16 l :=
  lfOkX (E := EO16_0 s V A) (InvO16 s V A) (muO16 s V A) (DO16 s V A) (fun _ _ => rfl) (fun _ _ => rfl) (fun _ _ => rfl) (fun st X t ht => nuX_keep.trans (rX_keep ((by decide : ∀ t, t ∈ keepO16 → t < 1000000) t ht))) rfl rfl rfl hl hs ebO16 rfl rfl st hI hth0 h0 hthx hx (roundsO16_0 s V A c0 x0)
def nuEO16_1 (s : LB) (V : Int) (A : Bool) : List Value := []
def roEO16_1 (s : LB) (V : Int) (A : Bool) : List Value := []
noncomputable def EO16_1 (s : LB) (V : Int) (A : Bool) : Cx := cx (nuX (nuEO16_1 s V A) (rX (roEO16_1 s V A) (fun _ => .bool true))) (nuX_one (nuL_one (l := nuEO16_1 s V A) rfl)) 1 laidE laidE_stab
theorem roundsO16_1 (s : LB) (V : Int) (A : Bool) (c0 : s.length ≤ 7) (x0 : A = false) (st : Nat × Int × Int) (X : Nat → Value) (hI : InvO16 s V A st) : RHO16 s V A (EO16_1 s V A) .ret [(6, .i .i64 (.ofNat 0)), (7, .b false)] [] st X := by
  obtain ⟨tag, i, n⟩ := st
  have hI0 := hI
  obtain ⟨i0, i1, i2, i3, i4, i5, it⟩ := unIO16 s V A tag i n hI
  obtain rfl : tag = 0 := by omega
  skip
  have hb : i.toNat ≤ 8 → 0 ≤ n * 16 ∧ n * 16 ≤ 68719476736 ∧ n ≤ 4294967296 := fun h => numBd (i := i.toNat) (B := 16) (.inr rfl) i2 i3 h
  by_cases h0 : i < (s.length : Int)
  · by_cases h1 : 16 ≤ vDgt (bt s (Int.toNat (i)))
    · skip
      have hb : i.toNat ≤ 8 → 0 ≤ n * 16 ∧ n * 16 ≤ 68719476736 ∧ n ≤ 4294967296 := fun h => numBd (i := i.toNat) (B := 16) (.inr rfl) i2 i3 h
      have := bt_lo s (Int.toNat (i)); have := bt_hi s (Int.toNat (i))
      have := rDgt (c := bt s (Int.toNat (i))) (by omega) (by omega)
      have := dgtI (c := bt s (Int.toNat (i))) (by omega) (by omega); have := digI_bd (bt s (Int.toNat (i)))
      refine lvO16_0 s V A i n (h := hyO16_p2) rfl ?_ (thNil) runO16_p2
      unfold hyO16_p2
      exact hc (ltT rfl rfl (by omega)) <|
       hc (ixV rfl rfl rfl (by omega)) <|
       hc (hokDgt (isX rfl) (by omega) (by omega) (denX rfl)) <|
       hc (gecT rfl (by omega)) <|
       hnil
    · exact nxO16_p0 s V A c0 i n X hI0 h0 h1
  · exfalso; have e := okB_end (by omega) i5; rw [e] at x0; exact absurd x0 (by simp)
theorem lfOkO16_1 {l : LF} {h : LH} (s : LB) (V : Int) (A : Bool) (c0 : s.length ≤ 7) (x0 : A = false) (st : Nat × Int × Int) (hI : InvO16 s V A st) (hl : l.hp = some h) (hs : lfSame l h 38 keepO16 .ret 7 7 7 = true) {th0 : LA} {sg0 : List (Nat × Nat)} (hth0 : ∀ X, ThOk (cx nu one 1 laidE laidE_stab) (DO16 s V A st X) th0) (h0 : startOk l h 38 7 7 th0 sg0 (epO16 st) (hpO16 st) = true) {thx : LA} (hthx : ThOk (EO16_1 s V A) (cx nu one 1 laidE laidE_stab) thx) (hx : exitOk l h 38 7 7 thx [(6, .i .i64 (.ofNat 0)), (7, .b false)] [] = true) : LfOk (cx nu one 1 laidE laidE_stab) bodyO16 l :=
  lfOkX (E := EO16_1 s V A) (InvO16 s V A) (muO16 s V A) (DO16 s V A) (fun _ _ => rfl) (fun _ _ => rfl) (fun _ _ => rfl) (fun st X t ht => nuX_keep.trans (rX_keep ((by decide : ∀ t, t ∈ keepO16 → t < 1000000) t ht))) rfl rfl rfl hl hs ebO16 rfl rfl st hI hth0 h0 hthx hx (roundsO16_1 s V A c0 x0)
theorem fiNNmO16 : tabk.fn.get 55 = some (fI Tryd.f55 0) ∧ (fI Tryd.f55 0).body.isSome = true := ⟨rfl, by kernel_rfl⟩
def hyNmO16_0 : LK := [(.bin .eql (.x 0) (.s 0 0), .b true)]
theorem runNmO16_0 (e : Nat) : okA (call (tbl hyNmO16_0) 9000 55 [.x 0, .i .i64 (.ofNat 16), .i .i64 (.ofNat 7)] ⟨H0 e , 7, 0, 0⟩) (.tu [.i .i64 (.ofNat 0), .b false]) = true := by kernel_rfl
def nuNmO16_0 (s : LB) : List Value := [St' s]
theorem pathNmO16_0 (s : LB) (b0 : s.length ≤ 9223372036854775807) (h0 : (s.length : Int) = 0) (w : World) (hl : laidE w) : CwR 55 #[St' s, .int .i64 16, .int .i64 7] w (.tuple #[.int .i64 0, .bool false]) := by
  have ho : ∀ k r, (k, r) ∈ hyNmO16_0 → HOk (cx (nuL (nuNmO16_0 s)) (fun j _ => nuL_one (l := nuNmO16_0 s) rfl j) 1 laidE laidE_stab) k r := by
    unfold hyNmO16_0
    exact hc (kEqS (isX rfl) (isSx (l := ([] : LB)) 0 0 rfl) (nilT (by omega))) <|
     hnil
  refine runC (tb := (tbl hyNmO16_0)) (ra := .tu [.i .i64 (.ofNat 0), .b false]) rfl ((tabkOk (nuL (nuNmO16_0 s)) (fun j _ => nuL_one (l := nuNmO16_0 s) rfl j)).hyps ho) rfl fiNNmO16.1 fiNNmO16.2 (fun e => runNmO16_0 e ) (args := [St' s, .int .i64 16, .int .i64 7]) (by simp only [RelL, Rel]; exact ⟨_, _, rfl, rfl, ⟨_, _, rfl, rfl, ⟨_, _, rfl, rfl, rfl⟩⟩⟩) w hl fun x hx => ?_
  simp only [Rel, RelL] at hx
  obtain ⟨_, rfl, ⟨_, _, rfl, rfl, ⟨_, _, rfl, rfl, rfl⟩⟩⟩ := hx
  rfl
def hyNmO16_1 : LK := [(.bin .eql (.x 0) (.s 0 0), .b false), (.len (.x 0), .x 1), (.bin .gtr (.x 1) (.i .i64 (.ofNat 7)), .b true)]
theorem runNmO16_1 (e : Nat) : okA (call (tbl hyNmO16_1) 9000 55 [.x 0, .i .i64 (.ofNat 16), .i .i64 (.ofNat 7)] ⟨H0 e , 7, 0, 0⟩) (.tu [.i .i64 (.ofNat 0), .b false]) = true := by kernel_rfl
def nuNmO16_1 (s : LB) : List Value := [St' s, .int .i64 ((s.length : Int))]
theorem pathNmO16_1 (s : LB) (b0 : s.length ≤ 9223372036854775807) (h0 : ¬ ((s.length : Int) = 0)) (h1 : 7 < (s.length : Int)) (w : World) (hl : laidE w) : CwR 55 #[St' s, .int .i64 16, .int .i64 7] w (.tuple #[.int .i64 0, .bool false]) := by
  have ho : ∀ k r, (k, r) ∈ hyNmO16_1 → HOk (cx (nuL (nuNmO16_1 s)) (fun j _ => nuL_one (l := nuNmO16_1 s) rfl j) 1 laidE laidE_stab) k r := by
    unfold hyNmO16_1
    exact hc (kEqS (isX rfl) (isSx (l := ([] : LB)) 0 0 rfl) (nilF (by omega))) <|
     hc (lnV rfl rfl (by omega)) <|
     hc (gtcT rfl (by omega)) <|
     hnil
  refine runC (tb := (tbl hyNmO16_1)) (ra := .tu [.i .i64 (.ofNat 0), .b false]) rfl ((tabkOk (nuL (nuNmO16_1 s)) (fun j _ => nuL_one (l := nuNmO16_1 s) rfl j)).hyps ho) rfl fiNNmO16.1 fiNNmO16.2 (fun e => runNmO16_1 e ) (args := [St' s, .int .i64 16, .int .i64 7]) (by simp only [RelL, Rel]; exact ⟨_, _, rfl, rfl, ⟨_, _, rfl, rfl, ⟨_, _, rfl, rfl, rfl⟩⟩⟩) w hl fun x hx => ?_
  simp only [Rel, RelL] at hx
  obtain ⟨_, rfl, ⟨_, _, rfl, rfl, ⟨_, _, rfl, rfl, rfl⟩⟩⟩ := hx
  rfl
def hyNmO16_2 : LK := [(.bin .eql (.x 0) (.s 0 0), .b false), (.len (.x 0), .x 1), (.bin .gtr (.x 1) (.i .i64 (.ofNat 7)), .b false)]
def lh18 : LH := ⟨7, 7, 7, [], []⟩
def lf18 : LF := ⟨5, 38, [(0, .x 0), (21, .i .i64 (.ofNat 0)), (8, .i .i64 (.ofNat 0)), (1, .i .i64 (.ofNat 16)), (20, .x 1)], [], (.exit 0), [(8, .x 2)], some lh18⟩
noncomputable def tabNmO16_2 : Tab := addLps ({ tabk with hyp := hyNmO16_2 }) 55 fi55 [lf18]
theorem runNmO16_2 (e : Nat) : okA (call tabNmO16_2 9000 55 [.x 0, .i .i64 (.ofNat 16), .i .i64 (.ofNat 7)] ⟨H0 e , 7, 0, 0⟩) (.tu [.x 2, .b true]) = true := by kernel_rfl
def nuNmO16_2 (s : LB) : List Value := [St' s, .int .i64 ((s.length : Int)), .int .i64 ((valF 16 s 0))]
theorem pathNmO16_2 (s : LB) (b0 : s.length ≤ 9223372036854775807) (h0 : ¬ ((s.length : Int) = 0)) (h1 : ¬ (7 < (s.length : Int))) (h2 : okB 16 s = true) (w : World) (hl : laidE w) : CwR 55 #[St' s, .int .i64 16, .int .i64 7] w (.tuple #[.int .i64 ((valF 16 s 0)), .bool true]) := by
  have ho : ∀ k r, (k, r) ∈ hyNmO16_2 → HOk (cx (nuL (nuNmO16_2 s)) (fun j _ => nuL_one (l := nuNmO16_2 s) rfl j) 1 laidE laidE_stab) k r := by
    unfold hyNmO16_2
    exact hc (kEqS (isX rfl) (isSx (l := ([] : LB)) 0 0 rfl) (nilF (by omega))) <|
     hc (lnV rfl rfl (by omega)) <|
     hc (gtcF rfl (by omega)) <|
     hnil
  refine runC (tb := tabNmO16_2) (ra := .tu [.x 2, .b true]) rfl (AllOk.lp1 ((tabkOk (nuL (nuNmO16_2 s)) (fun j _ => nuL_one (l := nuNmO16_2 s) rfl j)).hyps ho) (by omega) fi55_at fi55_body (lfCons (lpKnown rfl ⟨0, keyO16, lfOkO16_0 (l := lf18) (h := lh18) s (valF 16 s 0) (okB 16 s) (by omega) (by assumption) (0, (0 : Int), (0 : Int)) (mkIO16 s (valF 16 s 0) (okB 16 s) 0 (0 : Int) (0 : Int) ⟨by omega, by omega, by omega, by decide, rfl, rfl, by omega⟩) rfl (by kernel_rfl) (th0 := [(0, .x 0), (1, .i .i64 (.ofNat 0)), (2, .i .i64 (.ofNat 0)), (3, .x 1)]) (sg0 := []) (fun X => thXv (v := St' s) rfl rfl (thCons (show Is _ (.i .i64 (.ofNat 0)) (.int .i64 ((0 : Int))) from isTo (v := .int .i64 0) (isI _ _) (by first | rfl | (congr 1; omega))) (thCons (show Is _ (.i .i64 (.ofNat 0)) (.int .i64 ((0 : Int))) from isTo (v := .int .i64 0) (isI _ _) (by first | rfl | (congr 1; omega))) (thXv (v := .int .i64 ((s.length : Int))) rfl rfl (thNil))))) (by kernel_rfl) (thx := [(2, .x 0)]) (thXv (v := .int .i64 ((valF 16 s 0))) rfl rfl (thNil)) (by kernel_rfl)⟩) lfNil)) rfl (get_lps (by omega)) fiB55 (fun e => runNmO16_2 e ) (args := [St' s, .int .i64 16, .int .i64 7]) (by simp only [RelL, Rel]; exact ⟨_, _, rfl, rfl, ⟨_, _, rfl, rfl, ⟨_, _, rfl, rfl, rfl⟩⟩⟩) w hl fun x hx => ?_
  simp only [Rel, RelL] at hx
  obtain ⟨_, rfl, ⟨_, _, rfl, rfl, ⟨_, _, rfl, rfl, rfl⟩⟩⟩ := hx
  rfl
def hyNmO16_3 : LK := [(.bin .eql (.x 0) (.s 0 0), .b false), (.len (.x 0), .x 1), (.bin .gtr (.x 1) (.i .i64 (.ofNat 7)), .b false)]
def lh19 : LH := ⟨7, 7, 7, [], []⟩
def lf19 : LF := ⟨5, 38, [(0, .x 0), (21, .i .i64 (.ofNat 0)), (8, .i .i64 (.ofNat 0)), (1, .i .i64 (.ofNat 16)), (20, .x 1)], [], .ret, [(6, .i .i64 (.ofNat 0)), (7, .b false)], some lh19⟩
noncomputable def tabNmO16_3 : Tab := addLps ({ tabk with hyp := hyNmO16_3 }) 55 fi55 [lf19]
theorem runNmO16_3 (e : Nat) : okA (call tabNmO16_3 9000 55 [.x 0, .i .i64 (.ofNat 16), .i .i64 (.ofNat 7)] ⟨H0 e , 7, 0, 0⟩) (.tu [.i .i64 (.ofNat 0), .b false]) = true := by kernel_rfl
def nuNmO16_3 (s : LB) : List Value := [St' s, .int .i64 ((s.length : Int))]
theorem pathNmO16_3 (s : LB) (b0 : s.length ≤ 9223372036854775807) (h0 : ¬ ((s.length : Int) = 0)) (h1 : ¬ (7 < (s.length : Int))) (h2 : ¬ (okB 16 s = true)) (w : World) (hl : laidE w) : CwR 55 #[St' s, .int .i64 16, .int .i64 7] w (.tuple #[.int .i64 0, .bool false]) := by
  have ho : ∀ k r, (k, r) ∈ hyNmO16_3 → HOk (cx (nuL (nuNmO16_3 s)) (fun j _ => nuL_one (l := nuNmO16_3 s) rfl j) 1 laidE laidE_stab) k r := by
    unfold hyNmO16_3
    exact hc (kEqS (isX rfl) (isSx (l := ([] : LB)) 0 0 rfl) (nilF (by omega))) <|
     hc (lnV rfl rfl (by omega)) <|
     hc (gtcF rfl (by omega)) <|
     hnil
  refine runC (tb := tabNmO16_3) (ra := .tu [.i .i64 (.ofNat 0), .b false]) rfl (AllOk.lp1 ((tabkOk (nuL (nuNmO16_3 s)) (fun j _ => nuL_one (l := nuNmO16_3 s) rfl j)).hyps ho) (by omega) fi55_at fi55_body (lfCons (lpKnown rfl ⟨0, keyO16, lfOkO16_1 (l := lf19) (h := lh19) s (valF 16 s 0) (okB 16 s) (by omega) (by simpa using (by assumption : ¬ (okB 16 s = true))) (0, (0 : Int), (0 : Int)) (mkIO16 s (valF 16 s 0) (okB 16 s) 0 (0 : Int) (0 : Int) ⟨by omega, by omega, by omega, by decide, rfl, rfl, by omega⟩) rfl (by kernel_rfl) (th0 := [(0, .x 0), (1, .i .i64 (.ofNat 0)), (2, .i .i64 (.ofNat 0)), (3, .x 1)]) (sg0 := []) (fun X => thXv (v := St' s) rfl rfl (thCons (show Is _ (.i .i64 (.ofNat 0)) (.int .i64 ((0 : Int))) from isTo (v := .int .i64 0) (isI _ _) (by first | rfl | (congr 1; omega))) (thCons (show Is _ (.i .i64 (.ofNat 0)) (.int .i64 ((0 : Int))) from isTo (v := .int .i64 0) (isI _ _) (by first | rfl | (congr 1; omega))) (thXv (v := .int .i64 ((s.length : Int))) rfl rfl (thNil))))) (by kernel_rfl) (thx := []) (thNil) (by kernel_rfl)⟩) lfNil)) rfl (get_lps (by omega)) fiB55 (fun e => runNmO16_3 e ) (args := [St' s, .int .i64 16, .int .i64 7]) (by simp only [RelL, Rel]; exact ⟨_, _, rfl, rfl, ⟨_, _, rfl, rfl, ⟨_, _, rfl, rfl, rfl⟩⟩⟩) w hl fun x hx => ?_
  simp only [Rel, RelL] at hx
  obtain ⟨_, rfl, ⟨_, _, rfl, rfl, ⟨_, _, rfl, rfl, rfl⟩⟩⟩ := hx
  rfl
theorem callsNmO16 (s : LB) (b0 : s.length ≤ 9223372036854775807) (w : World) (hl : laidE w) : CwR 55 #[St' s, .int .i64 16, .int .i64 7] w (.tuple #[.int .i64 (numV 16 7 s), .bool (numB 16 7 s)]) := by
  by_cases h0 : (s.length : Int) = 0
  · rw [show (.tuple #[.int .i64 (numV 16 7 s), .bool (numB 16 7 s)] : Value) = (.tuple #[.int .i64 0, .bool false] : Value) from by first | exact nmN (.inl (by omega)) | exact nmN (.inr (.inl (by omega))) | exact nmN (.inr (.inr (by assumption))) | exact nmY (by omega) (by omega) (by assumption)]
    exact pathNmO16_0 s b0 h0 w hl
  · by_cases h1 : 7 < (s.length : Int)
    · rw [show (.tuple #[.int .i64 (numV 16 7 s), .bool (numB 16 7 s)] : Value) = (.tuple #[.int .i64 0, .bool false] : Value) from by first | exact nmN (.inl (by omega)) | exact nmN (.inr (.inl (by omega))) | exact nmN (.inr (.inr (by assumption))) | exact nmY (by omega) (by omega) (by assumption)]
      exact pathNmO16_1 s b0 h0 h1 w hl
    · by_cases h2 : okB 16 s = true
      · rw [show (.tuple #[.int .i64 (numV 16 7 s), .bool (numB 16 7 s)] : Value) = (.tuple #[.int .i64 ((valF 16 s 0)), .bool true] : Value) from by first | exact nmN (.inl (by omega)) | exact nmN (.inr (.inl (by omega))) | exact nmN (.inr (.inr (by assumption))) | exact nmY (by omega) (by omega) (by assumption)]
        exact pathNmO16_2 s b0 h0 h1 h2 w hl
      · rw [show (.tuple #[.int .i64 (numV 16 7 s), .bool (numB 16 7 s)] : Value) = (.tuple #[.int .i64 0, .bool false] : Value) from by first | exact nmN (.inl (by omega)) | exact nmN (.inr (.inl (by omega))) | exact nmN (.inr (.inr (by assumption))) | exact nmY (by omega) (by omega) (by assumption)]
        exact pathNmO16_3 s b0 h0 h1 h2 w hl
theorem hokNmO16 {x0 x1 x2 r : AV} {s : LB} (i0 : Is (cx nu one 1 laidE laidE_stab) x0 (St' s)) (i1 : Is (cx nu one 1 laidE laidE_stab) x1 (.int .i64 16)) (i2 : Is (cx nu one 1 laidE laidE_stab) x2 (.int .i64 7)) (hr : Den (cx nu one 1 laidE laidE_stab) r (.tuple #[.int .i64 (numV 16 7 s), .bool (numB 16 7 s)])) (b0 : s.length ≤ 9223372036854775807) : HOk (cx nu one 1 laidE laidE_stab) (.call 55 [x0, x1, x2]) r := by
  intro ρ args ha w hl _
  simp only [RelL] at ha
  obtain ⟨v0, t0, rfl, a0, v1, t1, rfl, a1, v2, t2, rfl, a2, rfl⟩ := ha
  have e0 := i0 ρ _ a0; subst e0
  have e1 := i1 ρ _ a1; subst e1
  have e2 := i2 ρ _ a2; subst e2
  exact (callsNmO16 s b0 w hl).mono fun e w' he => ⟨_, he.1, hr ρ, he.2⟩
noncomputable def bodyR10 : Code := loopNo (Tryd.f15.body.getD .skip) 0
theorem keyR10 : oneKey (loopsOf (Tryd.f15.body.getD .skip)) 5 0 0 = true := by kernel_rfl
def keepR10 : List Nat := []
def epR10_0 : LA := [(0, .x 0), (5, .x 1), (4, .x 2)]
def hpR10_0 : LE := []
def nuR10_0 (s : LB) (V : Int) (A : Bool) (i n : Int) : List Value := [St' s, .int .i64 (i), .int .i64 (n), .int .i64 ((s.length : Int)), .int .u8 (bt s (Int.toNat (i))), .int .i64 (n * 10), .int .u8 ((bt s (Int.toNat (i))) - 48), .int .i64 ((bt s (Int.toNat (i))) - 48), .int .i64 ((bt s (Int.toNat (i))) + n * 10 - 48), .int .i64 (i + 1), .int .i64 ((s.length : Int)), .int .i64 ((s.length : Int)), .int .u8 (bt s (Int.toNat (i)))]
def roR10_0 (s : LB) (V : Int) (A : Bool) (i n : Int) : List Value := []
def epR10 (st : Nat × Int × Int) : LA := epR10_0
def hpR10 (st : Nat × Int × Int) : LE := hpR10_0
def nuR10 (s : LB) (V : Int) (A : Bool) (st : Nat × Int × Int) : List Value := nuR10_0 s V A (st.2.1) (st.2.2)
def roR10 (s : LB) (V : Int) (A : Bool) (st : Nat × Int × Int) : List Value := roR10_0 s V A (st.2.1) (st.2.2)
theorem onR10 (s : LB) (V : Int) (A : Bool) (st : Nat × Int × Int) : ∀ j, (nuL (nuR10 s V A st) j).oneCell' = true := by
  intro j
  unfold nuR10
  exact nuL_one (l := nuR10_0 s V A (st.2.1) (st.2.2)) rfl j
theorem ebR10 (st : Nat × Int × Int) : (lfB (epR10 st) && lfC keepR10) = true := by
  unfold epR10
  rfl
noncomputable def DR10 (s : LB) (V : Int) (A : Bool) (st : Nat × Int × Int) (X : Nat → Value) : Cx := cx (nuX (nuR10 s V A st) (rX (roR10 s V A st) X)) (nuX_one (onR10 s V A st)) 1 laidE laidE_stab
def InvR10 (s : LB) (V : Int) (A : Bool) (st : Nat × Int × Int) : Prop := (0 ≤ (st.2.1)) ∧ ((st.2.1) ≤ (s.length : Int)) ∧ (0 ≤ (st.2.2)) ∧ ((st.2.2) < (16 : Int) ^ (st.2.1).toNat) ∧ (valF 10 (s.drop (st.2.1).toNat) (st.2.2) = V) ∧ (okB 10 (s.drop (Int.toNat (st.2.1))) = A) ∧ ((st.1) < 1)
abbrev CjR10 (s : LB) (V : Int) (A : Bool) (tag : Nat) (i n : Int) : Prop := (0 ≤ i) ∧ (i ≤ (s.length : Int)) ∧ (0 ≤ n) ∧ (n < (16 : Int) ^ i.toNat) ∧ (valF 10 (s.drop i.toNat) n = V) ∧ (okB 10 (s.drop (Int.toNat i)) = A) ∧ (tag < 1)
theorem mkIR10 (s : LB) (V : Int) (A : Bool) (tag : Nat) (i n : Int) (h : CjR10 s V A tag i n) : InvR10 s V A (tag, i, n) := h
theorem unIR10 (s : LB) (V : Int) (A : Bool) (tag : Nat) (i n : Int) (h : InvR10 s V A (tag, i, n)) : (0 ≤ i) ∧ (i ≤ (s.length : Int)) ∧ (0 ≤ n) ∧ (n < (16 : Int) ^ i.toNat) ∧ (valF 10 (s.drop i.toNat) n = V) ∧ (okB 10 (s.drop (Int.toNat i)) = A) ∧ (tag < 1) := h
def muR10 (s : LB) (V : Int) (A : Bool) (st : Nat × Int × Int) : Nat := (s.length - (st.2.1).toNat)
abbrev RHR10 (s : LB) (V : Int) (A : Bool) (E' : Cx) (ex' : Ex) (epx' : LA) (hpx' : LE) (st : Nat × Int × Int) (X : Nat → Value) : Prop := RoundH E' bodyR10 keepR10 34 ex' 7 7 7 7 epR10 hpR10 epx' hpx' (InvR10 s V A) (muR10 s V A) (DR10 s V A) st X
noncomputable abbrev RNR10_0 (h : LK) (x : Ex) (th : LA) (sg : List (Nat × Nat)) (m : Nat) (ep : LA) (hp : LE) : Bool := okRdH (code (tbl h) 900 [] bodyR10 (envOf (headOf epR10_0 keepR10) 34) ⟨lhSet hpR10_0 .leaf, 7, 0, 0⟩) x keepR10 34 7 th sg 7 m ep hp
theorem stR10_0 (s : LB) (V : Int) (A : Bool) (i n : Int) {X : Nat → Value} {h : LK} (y : Nat × Int × Int) {th : LA} {sg : List (Nat × Nat)} (ho : ∀ a' r', (a', r') ∈ h → HOk (cx (nuX (nuR10_0 s V A i n) (rX (roR10_0 s V A i n) X)) (nuX_one (nuL_one (l := nuR10_0 s V A i n) rfl)) 1 laidE laidE_stab) a' r') (hy : InvR10 s V A y) (lt : muR10 s V A y < muR10 s V A (0, i, n)) (ht : ThOk (cx (nuX (nuR10_0 s V A i n) (rX (roR10_0 s V A i n) X)) (nuX_one (nuL_one (l := nuR10_0 s V A i n) rfl)) 1 laidE laidE_stab) (DR10 s V A y X) th) (run : RNR10_0 h .normal th sg 7 (epR10 y) (hpR10 y) = true) : RHR10 s V A E' x' e' h' (0, i, n) X :=
  RoundH.next (tb := tbl h) (L := []) (f := 900) y ((tabkOk _ _).hyps ho) (LpOk.nil _) rfl hy lt ht run
theorem lvR10_0 (s : LB) (V : Int) (A : Bool) (i n : Int) {X : Nat → Value} {h : LK} {th : LA} {sg : List (Nat × Nat)} (hne : exB x' .normal = false) (ho : ∀ a' r', (a', r') ∈ h → HOk (cx (nuX (nuR10_0 s V A i n) (rX (roR10_0 s V A i n) X)) (nuX_one (nuL_one (l := nuR10_0 s V A i n) rfl)) 1 laidE laidE_stab) a' r') (ht : ThOk (cx (nuX (nuR10_0 s V A i n) (rX (roR10_0 s V A i n) X)) (nuX_one (nuL_one (l := nuR10_0 s V A i n) rfl)) 1 laidE laidE_stab) E' th) (run : RNR10_0 h x' th sg 7 e' h' = true) : RHR10 s V A E' x' e' h' (0, i, n) X :=
  RoundH.leave (tb := tbl h) (L := []) (f := 900) ((tabkOk _ _).hyps ho) (LpOk.nil _) rfl hne ht run
def hyR10_p0 : LK := [(.len (.x 0), .x 3), (.bin .lss (.x 1) (.x 3), .b true), (.idx (.x 0) (.x 1), .x 4), (.call 56 [.x 4], .b true), (.bin .mul (.x 2) (.i .i64 (.ofNat 10)), .x 5), (.bin .sub (.x 4) (.i .u8 (.ofNat 48)), .x 6), (.conv 3 (.x 6), .x 7), (.bin .add (.x 5) (.x 7), .x 8), (.bin .add (.x 1) (.i .i64 (.ofNat 1)), .x 9)]
theorem runR10_p0 : RNR10_0 hyR10_p0 .normal [(0, .x 0), (1, .x 9), (2, .x 8)] [] 7 epR10_0 hpR10_0 = true := by kernel_rfl
theorem nxR10_p0 (s : LB) (V : Int) (A : Bool) (c0 : s.length ≤ 9) (i n : Int) (X : Nat → Value) (hI : InvR10 s V A (0, i, n)) (h0 : i < (s.length : Int)) (h1 : tb8 MDgr (bt s (Int.toNat (i))) = true) : RHR10 s V A E' x' e' h' (0, i, n) X := by
  obtain ⟨i0, i1, i2, i3, i4, i5, it⟩ := unIR10 s V A 0 i n hI
  have hb : i.toNat ≤ 8 → 0 ≤ n * 10 ∧ n * 10 ≤ 68719476736 ∧ n ≤ 4294967296 := fun h => numBd (i := i.toNat) (B := 10) (.inl rfl) i2 i3 h
  have := bt_lo s (Int.toNat (i)); have := bt_hi s (Int.toNat (i))
  have : 48 ≤ bt s (Int.toNat (i)) ∧ bt s (Int.toNat (i)) ≤ 57 := by rcases dgrI (c := bt s (Int.toNat (i))) (by omega) (by omega) with ⟨_, _, _, a, b⟩ | ⟨a, _⟩ <;> first | exact ⟨a, b⟩ | (rw [‹tb8 MDgr (bt s (Int.toNat (i))) = true›] at a; cases a)
  refine stR10_0 s V A i n (h := hyR10_p0) (0, (i + 1), (bt s (Int.toNat (i))) + n * 10 - 48) ?_ (mkIR10 s V A 0 (i + 1) ((bt s (Int.toNat (i))) + n * 10 - 48) (by have D : digI (bt s (Int.toNat (i))) = bt s (Int.toNat (i)) - 48 ∧ digI (bt s (Int.toNat (i))) < 10 := (by rcases dgrI (c := bt s (Int.toNat (i))) (bt_lo _ _) (bt_hi _ _) with ⟨_, a, b, _⟩ | ⟨a, _⟩ <;> first | exact ⟨a, b⟩ | (rw [‹tb8 MDgr (bt s (Int.toNat (i))) = true›] at a; cases a)); have hN : ((bt s (Int.toNat (i))) + n * 10 - 48 : Int) = n * 10 + digI (bt s (Int.toNat (i))) := (by omega); rw [hN]; have E := nb_step (B := 10) (.inl rfl) (by omega) i0 (by omega) (by omega) i2 i3 i4 i5; exact ⟨E.1, E.2.1, E.2.2.1, E.2.2.2.1, E.2.2.2.2.1, E.2.2.2.2.2, by omega⟩)) (by show s.length - (i + 1).toNat < s.length - i.toNat; omega) (thXv (v := St' s) rfl rfl (thXi (b := ((i + 1))) rfl rfl (by omega) (thXi (b := (((bt s (Int.toNat (i))) + n * 10 - 48))) rfl rfl (by omega) (thNil)))) runR10_p0
  unfold hyR10_p0
  exact hc (lnV rfl rfl (by omega)) <|
   hc (ltT rfl rfl (by omega)) <|
   hc (ixV rfl rfl rfl (by omega)) <|
   hc (hokDgr (isX rfl) (by omega) (by omega) (denBT (by assumption))) <|
   hc (kMul (isX rfl) (isZ (m := 10) rfl) (denX rfl) (by omega) (fI64 (by omega) (by omega))) <|
   hc (kSub (isX rfl) (isZ (m := 48) rfl) (denX rfl) (by omega) (fU8 (by omega) (by omega))) <|
   hc (kConvF (isX rfl) tu3 (denX rfl) (fI64 (by omega) (by omega))) <|
   hc (adX rfl rfl rfl (by omega)) <|
   hc (adC rfl rfl (by omega)) <|
   hnil
def hyR10_p1 : LK := [(.len (.x 0), .x 10), (.bin .lss (.x 1) (.x 10), .b false)]
theorem runR10_p1 : RNR10_0 hyR10_p1 (.exit 0) [(0, .x 2)] [] 7 [(4, .x 0)] [] = true := by kernel_rfl
def hyR10_p2 : LK := [(.len (.x 0), .x 11), (.bin .lss (.x 1) (.x 11), .b true), (.idx (.x 0) (.x 1), .x 12), (.call 56 [.x 12], .b false)]
theorem runR10_p2 : RNR10_0 hyR10_p2 .ret [] [] 7 [(2, .i .i64 (.ofNat 0)), (3, .b false)] [] = true := by kernel_rfl
def nuER10_0 (s : LB) (V : Int) (A : Bool) : List Value := [.int .i64 (V)]
def roER10_0 (s : LB) (V : Int) (A : Bool) : List Value := []
noncomputable def ER10_0 (s : LB) (V : Int) (A : Bool) : Cx := cx (nuX (nuER10_0 s V A) (rX (roER10_0 s V A) (fun _ => .bool true))) (nuX_one (nuL_one (l := nuER10_0 s V A) rfl)) 1 laidE laidE_stab
theorem roundsR10_0 (s : LB) (V : Int) (A : Bool) (c0 : s.length ≤ 9) (x0 : A = true) (st : Nat × Int × Int) (X : Nat → Value) (hI : InvR10 s V A st) : RHR10 s V A (ER10_0 s V A) (.exit 0) [(4, .x 0)] [] st X := by
  obtain ⟨tag, i, n⟩ := st
  have hI0 := hI
  obtain ⟨i0, i1, i2, i3, i4, i5, it⟩ := unIR10 s V A tag i n hI
  obtain rfl : tag = 0 := by omega
  skip
  have hb : i.toNat ≤ 8 → 0 ≤ n * 10 ∧ n * 10 ≤ 68719476736 ∧ n ≤ 4294967296 := fun h => numBd (i := i.toNat) (B := 10) (.inl rfl) i2 i3 h
  by_cases h0 : i < (s.length : Int)
  · by_cases h1 : tb8 MDgr (bt s (Int.toNat (i))) = true
    · exact nxR10_p0 s V A c0 i n X hI0 h0 h1
    · exfalso; have e := okB_no (by omega) (by omega) (by rcases dgrI (c := bt s (Int.toNat (i))) (bt_lo _ _) (bt_hi _ _) with ⟨a, _⟩ | ⟨_, a⟩ <;> first | exact absurd a (by assumption) | omega) i5; rw [e] at x0; exact absurd x0 (by simp)
  · skip
    have hb : i.toNat ≤ 8 → 0 ≤ n * 10 ∧ n * 10 ≤ 68719476736 ∧ n ≤ 4294967296 := fun h => numBd (i := i.toNat) (B := 10) (.inl rfl) i2 i3 h
    refine lvR10_0 s V A i n (h := hyR10_p1) rfl ?_ (thXe (v := .int .i64 (n)) (u := .int .i64 (V)) rfl rfl (congrArg (Value.int .i64) (by rw [← i4]; exact (valEnd (by omega)).symm)) (thNil)) runR10_p1
    unfold hyR10_p1
    exact hc (lnV rfl rfl (by omega)) <|
     hc (ltF rfl rfl (by omega)) <|
     hnil
theorem lfOkR10_0 {l : LF} {h : LH} (s : LB) (V : Int) (A : Bool) (c0 : s.length ≤ 9) (x0 : A = true) (st : Nat × Int × Int) (hI : InvR10 s V A st) (hl : l.hp = some h) (hs : lfSame l h 34 keepR10 (.exit 0) 7 7 7 = true) {th0 : LA} {sg0 : List (Nat × Nat)} (hth0 : ∀ X, ThOk (cx nu one 1 laidE laidE_stab) (DR10 s V A st X) th0) (h0 : startOk l h 34 7 7 th0 sg0 (epR10 st) (hpR10 st) = true) {thx : LA} (hthx : ThOk (ER10_0 s V A) (cx nu one 1 laidE laidE_stab) thx) (hx : exitOk l h 34 7 7 thx [(4, .x 0)] [] = true) : LfOk (cx nu one 1 laidE laidE_stab) bodyR10 l :=
  lfOkX (E := ER10_0 s V A) (InvR10 s V A) (muR10 s V A) (DR10 s V A) (fun _ _ => rfl) (fun _ _ => rfl) (fun _ _ => rfl) (fun st X t ht => nuX_keep.trans (rX_keep ((by decide : ∀ t, t ∈ keepR10 → t < 1000000) t ht))) rfl rfl rfl hl hs ebR10 rfl rfl st hI hth0 h0 hthx hx (roundsR10_0 s V A c0 x0)
def nuER10_1 (s : LB) (V : Int) (A : Bool) : List Value := []
def roER10_1 (s : LB) (V : Int) (A : Bool) : List Value := []
noncomputable def ER10_1 (s : LB) (V : Int) (A : Bool) : Cx := cx (nuX (nuER10_1 s V A) (rX (roER10_1 s V A) (fun _ => .bool true))) (nuX_one (nuL_one (l := nuER10_1 s V A) rfl)) 1 laidE laidE_stab
theorem roundsR10_1 (s : LB) (V : Int) (A : Bool) (c0 : s.length ≤ 9) (x0 : A = false) (st : Nat × Int × Int) (X : Nat → Value) (hI : InvR10 s V A st) : RHR10 s V A (ER10_1 s V A) .ret [(2, .i .i64 (.ofNat 0)), (3, .b false)] [] st X := by
  obtain ⟨tag, i, n⟩ := st
  have hI0 := hI
  obtain ⟨i0, i1, i2, i3, i4, i5, it⟩ := unIR10 s V A tag i n hI
  obtain rfl : tag = 0 := by omega
  skip
  have hb : i.toNat ≤ 8 → 0 ≤ n * 10 ∧ n * 10 ≤ 68719476736 ∧ n ≤ 4294967296 := fun h => numBd (i := i.toNat) (B := 10) (.inl rfl) i2 i3 h
  by_cases h0 : i < (s.length : Int)
  · by_cases h1 : tb8 MDgr (bt s (Int.toNat (i))) = true
    · exact nxR10_p0 s V A c0 i n X hI0 h0 h1
    · skip
      have hb : i.toNat ≤ 8 → 0 ≤ n * 10 ∧ n * 10 ≤ 68719476736 ∧ n ≤ 4294967296 := fun h => numBd (i := i.toNat) (B := 10) (.inl rfl) i2 i3 h
      have := bt_lo s (Int.toNat (i)); have := bt_hi s (Int.toNat (i))
      skip
      refine lvR10_0 s V A i n (h := hyR10_p2) rfl ?_ (thNil) runR10_p2
      unfold hyR10_p2
      exact hc (lnV rfl rfl (by omega)) <|
       hc (ltT rfl rfl (by omega)) <|
       hc (ixV rfl rfl rfl (by omega)) <|
       hc (hokDgr (isX rfl) (by omega) (by omega) (denBF (by assumption))) <|
       hnil
  · exfalso; have e := okB_end (by omega) i5; rw [e] at x0; exact absurd x0 (by simp)
theorem lfOkR10_1 {l : LF} {h : LH} (s : LB) (V : Int) (A : Bool) (c0 : s.length ≤ 9) (x0 : A = false) (st : Nat × Int × Int) (hI : InvR10 s V A st) (hl : l.hp = some h) (hs : lfSame l h 34 keepR10 .ret 7 7 7 = true) {th0 : LA} {sg0 : List (Nat × Nat)} (hth0 : ∀ X, ThOk (cx nu one 1 laidE laidE_stab) (DR10 s V A st X) th0) (h0 : startOk l h 34 7 7 th0 sg0 (epR10 st) (hpR10 st) = true) {thx : LA} (hthx : ThOk (ER10_1 s V A) (cx nu one 1 laidE laidE_stab) thx) (hx : exitOk l h 34 7 7 thx [(2, .i .i64 (.ofNat 0)), (3, .b false)] [] = true) : LfOk (cx nu one 1 laidE laidE_stab) bodyR10 l :=
  lfOkX (E := ER10_1 s V A) (InvR10 s V A) (muR10 s V A) (DR10 s V A) (fun _ _ => rfl) (fun _ _ => rfl) (fun _ _ => rfl) (fun st X t ht => nuX_keep.trans (rX_keep ((by decide : ∀ t, t ∈ keepR10 → t < 1000000) t ht))) rfl rfl rfl hl hs ebR10 rfl rfl st hI hth0 h0 hthx hx (roundsR10_1 s V A c0 x0)
noncomputable def fi15 : FI := (tabk.fn.get 15).getD default
theorem fi15_at : tabk.fn.get 15 = some fi15 := by kernel_rfl
theorem fi15_body : fi15.body = some (Tryd.f15.body.getD .skip) := by kernel_rfl
theorem fiB15 : fi15.body.isSome = true := by rw [fi15_body]; rfl
theorem fiNNmR10 : tabk.fn.get 15 = some (fI Tryd.f15 0) ∧ (fI Tryd.f15 0).body.isSome = true := ⟨rfl, by kernel_rfl⟩
def hyNmR10_0 : LK := [(.len (.x 0), .x 1), (.bin .lss (.x 1) (.i .i64 (.ofNat 1)), .b true)]
theorem runNmR10_0 (e : Nat) : okA (call (tbl hyNmR10_0) 9000 15 [.x 0] ⟨H0 e , 7, 0, 0⟩) (.tu [.i .i64 (.ofNat 0), .b false]) = true := by kernel_rfl
def nuNmR10_0 (s : LB) : List Value := [St' s, .int .i64 ((s.length : Int))]
theorem pathNmR10_0 (s : LB) (b0 : s.length ≤ 9223372036854775807) (h0 : (s.length : Int) < 1) (w : World) (hl : laidE w) : CwR 15 #[St' s] w (.tuple #[.int .i64 0, .bool false]) := by
  have ho : ∀ k r, (k, r) ∈ hyNmR10_0 → HOk (cx (nuL (nuNmR10_0 s)) (fun j _ => nuL_one (l := nuNmR10_0 s) rfl j) 1 laidE laidE_stab) k r := by
    unfold hyNmR10_0
    exact hc (lnV rfl rfl (by omega)) <|
     hc (ltcT rfl (by omega)) <|
     hnil
  refine runC (tb := (tbl hyNmR10_0)) (ra := .tu [.i .i64 (.ofNat 0), .b false]) rfl ((tabkOk (nuL (nuNmR10_0 s)) (fun j _ => nuL_one (l := nuNmR10_0 s) rfl j)).hyps ho) rfl fiNNmR10.1 fiNNmR10.2 (fun e => runNmR10_0 e ) (args := [St' s]) (by simp only [RelL, Rel]; exact ⟨_, _, rfl, rfl, rfl⟩) w hl fun x hx => ?_
  simp only [Rel, RelL] at hx
  obtain ⟨_, rfl, ⟨_, _, rfl, rfl, ⟨_, _, rfl, rfl, rfl⟩⟩⟩ := hx
  rfl
def hyNmR10_1 : LK := [(.len (.x 0), .x 1), (.bin .lss (.x 1) (.i .i64 (.ofNat 1)), .b false), (.bin .gtr (.x 1) (.i .i64 (.ofNat 9)), .b true)]
theorem runNmR10_1 (e : Nat) : okA (call (tbl hyNmR10_1) 9000 15 [.x 0] ⟨H0 e , 7, 0, 0⟩) (.tu [.i .i64 (.ofNat 0), .b false]) = true := by kernel_rfl
def nuNmR10_1 (s : LB) : List Value := [St' s, .int .i64 ((s.length : Int))]
theorem pathNmR10_1 (s : LB) (b0 : s.length ≤ 9223372036854775807) (h0 : ¬ ((s.length : Int) < 1)) (h1 : 9 < (s.length : Int)) (w : World) (hl : laidE w) : CwR 15 #[St' s] w (.tuple #[.int .i64 0, .bool false]) := by
  have ho : ∀ k r, (k, r) ∈ hyNmR10_1 → HOk (cx (nuL (nuNmR10_1 s)) (fun j _ => nuL_one (l := nuNmR10_1 s) rfl j) 1 laidE laidE_stab) k r := by
    unfold hyNmR10_1
    exact hc (lnV rfl rfl (by omega)) <|
     hc (ltcF rfl (by omega)) <|
     hc (gtcT rfl (by omega)) <|
     hnil
  refine runC (tb := (tbl hyNmR10_1)) (ra := .tu [.i .i64 (.ofNat 0), .b false]) rfl ((tabkOk (nuL (nuNmR10_1 s)) (fun j _ => nuL_one (l := nuNmR10_1 s) rfl j)).hyps ho) rfl fiNNmR10.1 fiNNmR10.2 (fun e => runNmR10_1 e ) (args := [St' s]) (by simp only [RelL, Rel]; exact ⟨_, _, rfl, rfl, rfl⟩) w hl fun x hx => ?_
  simp only [Rel, RelL] at hx
  obtain ⟨_, rfl, ⟨_, _, rfl, rfl, ⟨_, _, rfl, rfl, rfl⟩⟩⟩ := hx
  rfl
def hyNmR10_2 : LK := [(.len (.x 0), .x 1), (.bin .lss (.x 1) (.i .i64 (.ofNat 1)), .b false), (.bin .gtr (.x 1) (.i .i64 (.ofNat 9)), .b false)]
def lh20 : LH := ⟨7, 7, 7, [], []⟩
def lf20 : LF := ⟨5, 34, [(0, .x 0), (5, .i .i64 (.ofNat 0)), (4, .i .i64 (.ofNat 0))], [], (.exit 0), [(4, .x 2)], some lh20⟩
noncomputable def tabNmR10_2 : Tab := addLps ({ tabk with hyp := hyNmR10_2 }) 15 fi15 [lf20]
theorem runNmR10_2 (e : Nat) : okA (call tabNmR10_2 9000 15 [.x 0] ⟨H0 e , 7, 0, 0⟩) (.tu [.x 2, .b true]) = true := by kernel_rfl
def nuNmR10_2 (s : LB) : List Value := [St' s, .int .i64 ((s.length : Int)), .int .i64 ((valF 10 s 0))]
theorem pathNmR10_2 (s : LB) (b0 : s.length ≤ 9223372036854775807) (h0 : ¬ ((s.length : Int) < 1)) (h1 : ¬ (9 < (s.length : Int))) (h2 : okB 10 s = true) (w : World) (hl : laidE w) : CwR 15 #[St' s] w (.tuple #[.int .i64 ((valF 10 s 0)), .bool true]) := by
  have ho : ∀ k r, (k, r) ∈ hyNmR10_2 → HOk (cx (nuL (nuNmR10_2 s)) (fun j _ => nuL_one (l := nuNmR10_2 s) rfl j) 1 laidE laidE_stab) k r := by
    unfold hyNmR10_2
    exact hc (lnV rfl rfl (by omega)) <|
     hc (ltcF rfl (by omega)) <|
     hc (gtcF rfl (by omega)) <|
     hnil
  refine runC (tb := tabNmR10_2) (ra := .tu [.x 2, .b true]) rfl (AllOk.lp1 ((tabkOk (nuL (nuNmR10_2 s)) (fun j _ => nuL_one (l := nuNmR10_2 s) rfl j)).hyps ho) (by omega) fi15_at fi15_body (lfCons (lpKnown rfl ⟨0, keyR10, lfOkR10_0 (l := lf20) (h := lh20) s (valF 10 s 0) (okB 10 s) (by omega) (by assumption) (0, (0 : Int), (0 : Int)) (mkIR10 s (valF 10 s 0) (okB 10 s) 0 (0 : Int) (0 : Int) ⟨by omega, by omega, by omega, by decide, rfl, rfl, by omega⟩) rfl (by kernel_rfl) (th0 := [(0, .x 0), (1, .i .i64 (.ofNat 0)), (2, .i .i64 (.ofNat 0))]) (sg0 := []) (fun X => thXv (v := St' s) rfl rfl (thCons (show Is _ (.i .i64 (.ofNat 0)) (.int .i64 ((0 : Int))) from isTo (v := .int .i64 0) (isI _ _) (by first | rfl | (congr 1; omega))) (thCons (show Is _ (.i .i64 (.ofNat 0)) (.int .i64 ((0 : Int))) from isTo (v := .int .i64 0) (isI _ _) (by first | rfl | (congr 1; omega))) (thNil)))) (by kernel_rfl) (thx := [(2, .x 0)]) (thXv (v := .int .i64 ((valF 10 s 0))) rfl rfl (thNil)) (by kernel_rfl)⟩) lfNil)) rfl (get_lps (by omega)) fiB15 (fun e => runNmR10_2 e ) (args := [St' s]) (by simp only [RelL, Rel]; exact ⟨_, _, rfl, rfl, rfl⟩) w hl fun x hx => ?_
  simp only [Rel, RelL] at hx
  obtain ⟨_, rfl, ⟨_, _, rfl, rfl, ⟨_, _, rfl, rfl, rfl⟩⟩⟩ := hx
  rfl
def hyNmR10_3 : LK := [(.len (.x 0), .x 1), (.bin .lss (.x 1) (.i .i64 (.ofNat 1)), .b false), (.bin .gtr (.x 1) (.i .i64 (.ofNat 9)), .b false)]
def lh21 : LH := ⟨7, 7, 7, [], []⟩
def lf21 : LF := ⟨5, 34, [(0, .x 0), (5, .i .i64 (.ofNat 0)), (4, .i .i64 (.ofNat 0))], [], .ret, [(2, .i .i64 (.ofNat 0)), (3, .b false)], some lh21⟩
noncomputable def tabNmR10_3 : Tab := addLps ({ tabk with hyp := hyNmR10_3 }) 15 fi15 [lf21]
theorem runNmR10_3 (e : Nat) : okA (call tabNmR10_3 9000 15 [.x 0] ⟨H0 e , 7, 0, 0⟩) (.tu [.i .i64 (.ofNat 0), .b false]) = true := by kernel_rfl
def nuNmR10_3 (s : LB) : List Value := [St' s, .int .i64 ((s.length : Int))]
theorem pathNmR10_3 (s : LB) (b0 : s.length ≤ 9223372036854775807) (h0 : ¬ ((s.length : Int) < 1)) (h1 : ¬ (9 < (s.length : Int))) (h2 : ¬ (okB 10 s = true)) (w : World) (hl : laidE w) : CwR 15 #[St' s] w (.tuple #[.int .i64 0, .bool false]) := by
  have ho : ∀ k r, (k, r) ∈ hyNmR10_3 → HOk (cx (nuL (nuNmR10_3 s)) (fun j _ => nuL_one (l := nuNmR10_3 s) rfl j) 1 laidE laidE_stab) k r := by
    unfold hyNmR10_3
    exact hc (lnV rfl rfl (by omega)) <|
     hc (ltcF rfl (by omega)) <|
     hc (gtcF rfl (by omega)) <|
     hnil
  refine runC (tb := tabNmR10_3) (ra := .tu [.i .i64 (.ofNat 0), .b false]) rfl (AllOk.lp1 ((tabkOk (nuL (nuNmR10_3 s)) (fun j _ => nuL_one (l := nuNmR10_3 s) rfl j)).hyps ho) (by omega) fi15_at fi15_body (lfCons (lpKnown rfl ⟨0, keyR10, lfOkR10_1 (l := lf21) (h := lh21) s (valF 10 s 0) (okB 10 s) (by omega) (by simpa using (by assumption : ¬ (okB 10 s = true))) (0, (0 : Int), (0 : Int)) (mkIR10 s (valF 10 s 0) (okB 10 s) 0 (0 : Int) (0 : Int) ⟨by omega, by omega, by omega, by decide, rfl, rfl, by omega⟩) rfl (by kernel_rfl) (th0 := [(0, .x 0), (1, .i .i64 (.ofNat 0)), (2, .i .i64 (.ofNat 0))]) (sg0 := []) (fun X => thXv (v := St' s) rfl rfl (thCons (show Is _ (.i .i64 (.ofNat 0)) (.int .i64 ((0 : Int))) from isTo (v := .int .i64 0) (isI _ _) (by first | rfl | (congr 1; omega))) (thCons (show Is _ (.i .i64 (.ofNat 0)) (.int .i64 ((0 : Int))) from isTo (v := .int .i64 0) (isI _ _) (by first | rfl | (congr 1; omega))) (thNil)))) (by kernel_rfl) (thx := []) (thNil) (by kernel_rfl)⟩) lfNil)) rfl (get_lps (by omega)) fiB15 (fun e => runNmR10_3 e ) (args := [St' s]) (by simp only [RelL, Rel]; exact ⟨_, _, rfl, rfl, rfl⟩) w hl fun x hx => ?_
  simp only [Rel, RelL] at hx
  obtain ⟨_, rfl, ⟨_, _, rfl, rfl, ⟨_, _, rfl, rfl, rfl⟩⟩⟩ := hx
  rfl
theorem callsNmR10 (s : LB) (b0 : s.length ≤ 9223372036854775807) (w : World) (hl : laidE w) : CwR 15 #[St' s] w (.tuple #[.int .i64 (numV 10 9 s), .bool (numB 10 9 s)]) := by
  by_cases h0 : (s.length : Int) < 1
  · rw [show (.tuple #[.int .i64 (numV 10 9 s), .bool (numB 10 9 s)] : Value) = (.tuple #[.int .i64 0, .bool false] : Value) from by first | exact nmN (.inl (by omega)) | exact nmN (.inr (.inl (by omega))) | exact nmN (.inr (.inr (by assumption))) | exact nmY (by omega) (by omega) (by assumption)]
    exact pathNmR10_0 s b0 h0 w hl
  · by_cases h1 : 9 < (s.length : Int)
    · rw [show (.tuple #[.int .i64 (numV 10 9 s), .bool (numB 10 9 s)] : Value) = (.tuple #[.int .i64 0, .bool false] : Value) from by first | exact nmN (.inl (by omega)) | exact nmN (.inr (.inl (by omega))) | exact nmN (.inr (.inr (by assumption))) | exact nmY (by omega) (by omega) (by assumption)]
      exact pathNmR10_1 s b0 h0 h1 w hl
    · by_cases h2 : okB 10 s = true
      · rw [show (.tuple #[.int .i64 (numV 10 9 s), .bool (numB 10 9 s)] : Value) = (.tuple #[.int .i64 ((valF 10 s 0)), .bool true] : Value) from by first | exact nmN (.inl (by omega)) | exact nmN (.inr (.inl (by omega))) | exact nmN (.inr (.inr (by assumption))) | exact nmY (by omega) (by omega) (by assumption)]
        exact pathNmR10_2 s b0 h0 h1 h2 w hl
      · rw [show (.tuple #[.int .i64 (numV 10 9 s), .bool (numB 10 9 s)] : Value) = (.tuple #[.int .i64 0, .bool false] : Value) from by first | exact nmN (.inl (by omega)) | exact nmN (.inr (.inl (by omega))) | exact nmN (.inr (.inr (by assumption))) | exact nmY (by omega) (by omega) (by assumption)]
        exact pathNmR10_3 s b0 h0 h1 h2 w hl
theorem hokNmR10 {x0 r : AV} {s : LB} (i0 : Is (cx nu one 1 laidE laidE_stab) x0 (St' s)) (hr : Den (cx nu one 1 laidE laidE_stab) r (.tuple #[.int .i64 (numV 10 9 s), .bool (numB 10 9 s)])) (b0 : s.length ≤ 9223372036854775807) : HOk (cx nu one 1 laidE laidE_stab) (.call 15 [x0]) r := by
  intro ρ args ha w hl _
  simp only [RelL] at ha
  obtain ⟨v0, t0, rfl, a0, rfl⟩ := ha
  have e0 := i0 ρ _ a0; subst e0
  exact (callsNmR10 s b0 w hl).mono fun e w' he => ⟨_, he.1, hr ρ, he.2⟩
noncomputable def bodyR16 : Code := loopNo (Tryd.f17.body.getD .skip) 0
theorem keyR16 : oneKey (loopsOf (Tryd.f17.body.getD .skip)) 5 0 0 = true := by kernel_rfl
def keepR16 : List Nat := []
def epR16_0 : LA := [(0, .x 0), (5, .x 1), (4, .x 2)]
def hpR16_0 : LE := []
def nuR16_0 (s : LB) (V : Int) (A : Bool) (i n : Int) : List Value := [St' s, .int .i64 (i), .int .i64 (n), .int .i64 ((s.length : Int)), .int .u8 (bt s (Int.toNat (i))), .int .i64 (vNib (bt s (Int.toNat (i)))), .int .i64 (n * 16), .int .i64 (n * 16 + (vNib (bt s (Int.toNat (i))))), .int .i64 (i + 1), .int .i64 ((s.length : Int)), .int .i64 ((s.length : Int)), .int .u8 (bt s (Int.toNat (i))), .int .i64 (vNib (bt s (Int.toNat (i))))]
def roR16_0 (s : LB) (V : Int) (A : Bool) (i n : Int) : List Value := []
def epR16 (st : Nat × Int × Int) : LA := epR16_0
def hpR16 (st : Nat × Int × Int) : LE := hpR16_0
def nuR16 (s : LB) (V : Int) (A : Bool) (st : Nat × Int × Int) : List Value := nuR16_0 s V A (st.2.1) (st.2.2)
def roR16 (s : LB) (V : Int) (A : Bool) (st : Nat × Int × Int) : List Value := roR16_0 s V A (st.2.1) (st.2.2)
theorem onR16 (s : LB) (V : Int) (A : Bool) (st : Nat × Int × Int) : ∀ j, (nuL (nuR16 s V A st) j).oneCell' = true := by
  intro j
  unfold nuR16
  exact nuL_one (l := nuR16_0 s V A (st.2.1) (st.2.2)) rfl j
theorem ebR16 (st : Nat × Int × Int) : (lfB (epR16 st) && lfC keepR16) = true := by
  unfold epR16
  rfl
noncomputable def DR16 (s : LB) (V : Int) (A : Bool) (st : Nat × Int × Int) (X : Nat → Value) : Cx := cx (nuX (nuR16 s V A st) (rX (roR16 s V A st) X)) (nuX_one (onR16 s V A st)) 1 laidE laidE_stab
def InvR16 (s : LB) (V : Int) (A : Bool) (st : Nat × Int × Int) : Prop := (0 ≤ (st.2.1)) ∧ ((st.2.1) ≤ (s.length : Int)) ∧ (0 ≤ (st.2.2)) ∧ ((st.2.2) < (16 : Int) ^ (st.2.1).toNat) ∧ (valF 16 (s.drop (st.2.1).toNat) (st.2.2) = V) ∧ (okB 16 (s.drop (Int.toNat (st.2.1))) = A) ∧ ((st.1) < 1)
abbrev CjR16 (s : LB) (V : Int) (A : Bool) (tag : Nat) (i n : Int) : Prop := (0 ≤ i) ∧ (i ≤ (s.length : Int)) ∧ (0 ≤ n) ∧ (n < (16 : Int) ^ i.toNat) ∧ (valF 16 (s.drop i.toNat) n = V) ∧ (okB 16 (s.drop (Int.toNat i)) = A) ∧ (tag < 1)
theorem mkIR16 (s : LB) (V : Int) (A : Bool) (tag : Nat) (i n : Int) (h : CjR16 s V A tag i n) : InvR16 s V A (tag, i, n) := h
theorem unIR16 (s : LB) (V : Int) (A : Bool) (tag : Nat) (i n : Int) (h : InvR16 s V A (tag, i, n)) : (0 ≤ i) ∧ (i ≤ (s.length : Int)) ∧ (0 ≤ n) ∧ (n < (16 : Int) ^ i.toNat) ∧ (valF 16 (s.drop i.toNat) n = V) ∧ (okB 16 (s.drop (Int.toNat i)) = A) ∧ (tag < 1) := h
def muR16 (s : LB) (V : Int) (A : Bool) (st : Nat × Int × Int) : Nat := (s.length - (st.2.1).toNat)
abbrev RHR16 (s : LB) (V : Int) (A : Bool) (E' : Cx) (ex' : Ex) (epx' : LA) (hpx' : LE) (st : Nat × Int × Int) (X : Nat → Value) : Prop := RoundH E' bodyR16 keepR16 32 ex' 7 7 7 7 epR16 hpR16 epx' hpx' (InvR16 s V A) (muR16 s V A) (DR16 s V A) st X
noncomputable abbrev RNR16_0 (h : LK) (x : Ex) (th : LA) (sg : List (Nat × Nat)) (m : Nat) (ep : LA) (hp : LE) : Bool := okRdH (code (tbl h) 900 [] bodyR16 (envOf (headOf epR16_0 keepR16) 32) ⟨lhSet hpR16_0 .leaf, 7, 0, 0⟩) x keepR16 32 7 th sg 7 m ep hp
theorem stR16_0 (s : LB) (V : Int) (A : Bool) (i n : Int) {X : Nat → Value} {h : LK} (y : Nat × Int × Int) {th : LA} {sg : List (Nat × Nat)} (ho : ∀ a' r', (a', r') ∈ h → HOk (cx (nuX (nuR16_0 s V A i n) (rX (roR16_0 s V A i n) X)) (nuX_one (nuL_one (l := nuR16_0 s V A i n) rfl)) 1 laidE laidE_stab) a' r') (hy : InvR16 s V A y) (lt : muR16 s V A y < muR16 s V A (0, i, n)) (ht : ThOk (cx (nuX (nuR16_0 s V A i n) (rX (roR16_0 s V A i n) X)) (nuX_one (nuL_one (l := nuR16_0 s V A i n) rfl)) 1 laidE laidE_stab) (DR16 s V A y X) th) (run : RNR16_0 h .normal th sg 7 (epR16 y) (hpR16 y) = true) : RHR16 s V A E' x' e' h' (0, i, n) X :=
  RoundH.next (tb := tbl h) (L := []) (f := 900) y ((tabkOk _ _).hyps ho) (LpOk.nil _) rfl hy lt ht run
theorem lvR16_0 (s : LB) (V : Int) (A : Bool) (i n : Int) {X : Nat → Value} {h : LK} {th : LA} {sg : List (Nat × Nat)} (hne : exB x' .normal = false) (ho : ∀ a' r', (a', r') ∈ h → HOk (cx (nuX (nuR16_0 s V A i n) (rX (roR16_0 s V A i n) X)) (nuX_one (nuL_one (l := nuR16_0 s V A i n) rfl)) 1 laidE laidE_stab) a' r') (ht : ThOk (cx (nuX (nuR16_0 s V A i n) (rX (roR16_0 s V A i n) X)) (nuX_one (nuL_one (l := nuR16_0 s V A i n) rfl)) 1 laidE laidE_stab) E' th) (run : RNR16_0 h x' th sg 7 e' h' = true) : RHR16 s V A E' x' e' h' (0, i, n) X :=
  RoundH.leave (tb := tbl h) (L := []) (f := 900) ((tabkOk _ _).hyps ho) (LpOk.nil _) rfl hne ht run
def hyR16_p0 : LK := [(.len (.x 0), .x 3), (.bin .lss (.x 1) (.x 3), .b true), (.idx (.x 0) (.x 1), .x 4), (.call 57 [.x 4], .x 5), (.bin .lss (.x 5) (.i .i64 (.ofNat 0)), .b false), (.bin .mul (.x 2) (.i .i64 (.ofNat 16)), .x 6), (.bin .add (.x 6) (.x 5), .x 7), (.bin .add (.x 1) (.i .i64 (.ofNat 1)), .x 8)]
theorem runR16_p0 : RNR16_0 hyR16_p0 .normal [(0, .x 0), (1, .x 8), (2, .x 7)] [] 7 epR16_0 hpR16_0 = true := by kernel_rfl
theorem nxR16_p0 (s : LB) (V : Int) (A : Bool) (c0 : s.length ≤ 7) (i n : Int) (X : Nat → Value) (hI : InvR16 s V A (0, i, n)) (h0 : i < (s.length : Int)) (h1 : ¬ (vNib (bt s (Int.toNat (i))) < 0)) : RHR16 s V A E' x' e' h' (0, i, n) X := by
  obtain ⟨i0, i1, i2, i3, i4, i5, it⟩ := unIR16 s V A 0 i n hI
  have hb : i.toNat ≤ 8 → 0 ≤ n * 16 ∧ n * 16 ≤ 68719476736 ∧ n ≤ 4294967296 := fun h => numBd (i := i.toNat) (B := 16) (.inr rfl) i2 i3 h
  have := bt_lo s (Int.toNat (i)); have := bt_hi s (Int.toNat (i))
  have := rNib (c := bt s (Int.toNat (i))) (by omega) (by omega)
  have := nibI (c := bt s (Int.toNat (i))) (by omega) (by omega); have := digI_bd (bt s (Int.toNat (i)))
  refine stR16_0 s V A i n (h := hyR16_p0) (0, (i + 1), n * 16 + (vNib (bt s (Int.toNat (i))))) ?_ (mkIR16 s V A 0 (i + 1) (n * 16 + (vNib (bt s (Int.toNat (i))))) (by have D := nibI (c := bt s (Int.toNat (i))) (bt_lo _ _) (bt_hi _ _); have hN : (n * 16 + (vNib (bt s (Int.toNat (i)))) : Int) = n * 16 + digI (bt s (Int.toNat (i))) := (by omega); rw [hN]; have E := nb_step (B := 16) (.inr rfl) (by omega) i0 (by omega) (by omega) i2 i3 i4 i5; exact ⟨E.1, E.2.1, E.2.2.1, E.2.2.2.1, E.2.2.2.2.1, E.2.2.2.2.2, by omega⟩)) (by show s.length - (i + 1).toNat < s.length - i.toNat; omega) (thXv (v := St' s) rfl rfl (thXi (b := ((i + 1))) rfl rfl (by omega) (thXi (b := ((n * 16 + (vNib (bt s (Int.toNat (i))))))) rfl rfl (by omega) (thNil)))) runR16_p0
  unfold hyR16_p0
  exact hc (lnV rfl rfl (by omega)) <|
   hc (ltT rfl rfl (by omega)) <|
   hc (ixV rfl rfl rfl (by omega)) <|
   hc (hokNib (isX rfl) (by omega) (by omega) (denX rfl)) <|
   hc (ltcF rfl (by omega)) <|
   hc (kMul (isX rfl) (isZ (m := 16) rfl) (denX rfl) (by omega) (fI64 (by omega) (by omega))) <|
   hc (adX rfl rfl rfl (by omega)) <|
   hc (adC rfl rfl (by omega)) <|
   hnil
def hyR16_p1 : LK := [(.len (.x 0), .x 9), (.bin .lss (.x 1) (.x 9), .b false)]
theorem runR16_p1 : RNR16_0 hyR16_p1 (.exit 0) [(0, .x 2)] [] 7 [(4, .x 0)] [] = true := by kernel_rfl
def hyR16_p2 : LK := [(.len (.x 0), .x 10), (.bin .lss (.x 1) (.x 10), .b true), (.idx (.x 0) (.x 1), .x 11), (.call 57 [.x 11], .x 12), (.bin .lss (.x 12) (.i .i64 (.ofNat 0)), .b true)]
theorem runR16_p2 : RNR16_0 hyR16_p2 .ret [] [] 7 [(2, .i .i64 (.ofNat 0)), (3, .b false)] [] = true := by kernel_rfl
def nuER16_0 (s : LB) (V : Int) (A : Bool) : List Value := [.int .i64 (V)]
def roER16_0 (s : LB) (V : Int) (A : Bool) : List Value := []
noncomputable def ER16_0 (s : LB) (V : Int) (A : Bool) : Cx := cx (nuX (nuER16_0 s V A) (rX (roER16_0 s V A) (fun _ => .bool true))) (nuX_one (nuL_one (l := nuER16_0 s V A) rfl)) 1 laidE laidE_stab
theorem roundsR16_0 (s : LB) (V : Int) (A : Bool) (c0 : s.length ≤ 7) (x0 : A = true) (st : Nat × Int × Int) (X : Nat → Value) (hI : InvR16 s V A st) : RHR16 s V A (ER16_0 s V A) (.exit 0) [(4, .x 0)] [] st X := by
  obtain ⟨tag, i, n⟩ := st
  have hI0 := hI
  obtain ⟨i0, i1, i2, i3, i4, i5, it⟩ := unIR16 s V A tag i n hI
  obtain rfl : tag = 0 := by omega
  skip
  have hb : i.toNat ≤ 8 → 0 ≤ n * 16 ∧ n * 16 ≤ 68719476736 ∧ n ≤ 4294967296 := fun h => numBd (i := i.toNat) (B := 16) (.inr rfl) i2 i3 h
  by_cases h0 : i < (s.length : Int)
  · by_cases h1 : vNib (bt s (Int.toNat (i))) < 0
    · exfalso; have e := okB_no (by omega) (by omega) (by have D := nibI (c := bt s (Int.toNat (i))) (bt_lo _ _) (bt_hi _ _); omega) i5; rw [e] at x0; exact absurd x0 (by simp)
    · exact nxR16_p0 s V A c0 i n X hI0 h0 h1
  · skip
    have hb : i.toNat ≤ 8 → 0 ≤ n * 16 ∧ n * 16 ≤ 68719476736 ∧ n ≤ 4294967296 := fun h => numBd (i := i.toNat) (B := 16) (.inr rfl) i2 i3 h
    refine lvR16_0 s V A i n (h := hyR16_p1) rfl ?_ (thXe (v := .int .i64 (n)) (u := .int .i64 (V)) rfl rfl (congrArg (Value.int .i64) (by rw [← i4]; exact (valEnd (by omega)).symm)) (thNil)) runR16_p1
    unfold hyR16_p1
    exact hc (lnV rfl rfl (by omega)) <|
     hc (ltF rfl rfl (by omega)) <|
     hnil
theorem lfOkR16_0 {l : LF} {h : LH} (s : LB) (V : Int) (A : Bool) (c0 : s.length ≤ 7) (x0 : A = true) (st : Nat × Int × Int) (hI : InvR16 s V A st) (hl : l.hp = some h) (hs : lfSame l h 32 keepR16 (.exit 0) 7 7 7 = true) {th0 : LA} {sg0 : List (Nat × Nat)} (hth0 : ∀ X, ThOk (cx nu one 1 laidE laidE_stab) (DR16 s V A st X) th0) (h0 : startOk l h 32 7 7 th0 sg0 (epR16 st) (hpR16 st) = true) {thx : LA} (hthx : ThOk (ER16_0 s V A) (cx nu one 1 laidE laidE_stab) thx) (hx : exitOk l h 32 7 7 thx [(4, .x 0)] [] = true) : LfOk (cx nu one 1 laidE laidE_stab) bodyR16 l :=
  lfOkX (E := ER16_0 s V A) (InvR16 s V A) (muR16 s V A) (DR16 s V A) (fun _ _ => rfl) (fun _ _ => rfl) (fun _ _ => rfl) (fun st X t ht => nuX_keep.trans (rX_keep ((by decide : ∀ t, t ∈ keepR16 → t < 1000000) t ht))) rfl rfl rfl hl hs ebR16 rfl rfl st hI hth0 h0 hthx hx (roundsR16_0 s V A c0 x0)
def nuER16_1 (s : LB) (V : Int) (A : Bool) : List Value := []
def roER16_1 (s : LB) (V : Int) (A : Bool) : List Value := []
noncomputable def ER16_1 (s : LB) (V : Int) (A : Bool) : Cx := cx (nuX (nuER16_1 s V A) (rX (roER16_1 s V A) (fun _ => .bool true))) (nuX_one (nuL_one (l := nuER16_1 s V A) rfl)) 1 laidE laidE_stab
theorem roundsR16_1 (s : LB) (V : Int) (A : Bool) (c0 : s.length ≤ 7) (x0 : A = false) (st : Nat × Int × Int) (X : Nat → Value) (hI : InvR16 s V A st) : RHR16 s V A (ER16_1 s V A) .ret [(2, .i .i64 (.ofNat 0)), (3, .b false)] [] st X := by
  obtain ⟨tag, i, n⟩ := st
  have hI0 := hI
  obtain ⟨i0, i1, i2, i3, i4, i5, it⟩ := unIR16 s V A tag i n hI
  obtain rfl : tag = 0 := by omega
  skip
  have hb : i.toNat ≤ 8 → 0 ≤ n * 16 ∧ n * 16 ≤ 68719476736 ∧ n ≤ 4294967296 := fun h => numBd (i := i.toNat) (B := 16) (.inr rfl) i2 i3 h
  by_cases h0 : i < (s.length : Int)
  · by_cases h1 : vNib (bt s (Int.toNat (i))) < 0
    · skip
      have hb : i.toNat ≤ 8 → 0 ≤ n * 16 ∧ n * 16 ≤ 68719476736 ∧ n ≤ 4294967296 := fun h => numBd (i := i.toNat) (B := 16) (.inr rfl) i2 i3 h
      have := bt_lo s (Int.toNat (i)); have := bt_hi s (Int.toNat (i))
      have := rNib (c := bt s (Int.toNat (i))) (by omega) (by omega)
      have := nibI (c := bt s (Int.toNat (i))) (by omega) (by omega); have := digI_bd (bt s (Int.toNat (i)))
      refine lvR16_0 s V A i n (h := hyR16_p2) rfl ?_ (thNil) runR16_p2
      unfold hyR16_p2
      exact hc (lnV rfl rfl (by omega)) <|
       hc (ltT rfl rfl (by omega)) <|
       hc (ixV rfl rfl rfl (by omega)) <|
       hc (hokNib (isX rfl) (by omega) (by omega) (denX rfl)) <|
       hc (ltcT rfl (by omega)) <|
       hnil
    · exact nxR16_p0 s V A c0 i n X hI0 h0 h1
  · exfalso; have e := okB_end (by omega) i5; rw [e] at x0; exact absurd x0 (by simp)
theorem lfOkR16_1 {l : LF} {h : LH} (s : LB) (V : Int) (A : Bool) (c0 : s.length ≤ 7) (x0 : A = false) (st : Nat × Int × Int) (hI : InvR16 s V A st) (hl : l.hp = some h) (hs : lfSame l h 32 keepR16 .ret 7 7 7 = true) {th0 : LA} {sg0 : List (Nat × Nat)} (hth0 : ∀ X, ThOk (cx nu one 1 laidE laidE_stab) (DR16 s V A st X) th0) (h0 : startOk l h 32 7 7 th0 sg0 (epR16 st) (hpR16 st) = true) {thx : LA} (hthx : ThOk (ER16_1 s V A) (cx nu one 1 laidE laidE_stab) thx) (hx : exitOk l h 32 7 7 thx [(2, .i .i64 (.ofNat 0)), (3, .b false)] [] = true) : LfOk (cx nu one 1 laidE laidE_stab) bodyR16 l :=
  lfOkX (E := ER16_1 s V A) (InvR16 s V A) (muR16 s V A) (DR16 s V A) (fun _ _ => rfl) (fun _ _ => rfl) (fun _ _ => rfl) (fun st X t ht => nuX_keep.trans (rX_keep ((by decide : ∀ t, t ∈ keepR16 → t < 1000000) t ht))) rfl rfl rfl hl hs ebR16 rfl rfl st hI hth0 h0 hthx hx (roundsR16_1 s V A c0 x0)
noncomputable def fi17 : FI := (tabk.fn.get 17).getD default
theorem fi17_at : tabk.fn.get 17 = some fi17 := by kernel_rfl
theorem fi17_body : fi17.body = some (Tryd.f17.body.getD .skip) := by kernel_rfl
theorem fiB17 : fi17.body.isSome = true := by rw [fi17_body]; rfl
theorem fiNNmR16 : tabk.fn.get 17 = some (fI Tryd.f17 0) ∧ (fI Tryd.f17 0).body.isSome = true := ⟨rfl, by kernel_rfl⟩
def hyNmR16_0 : LK := [(.len (.x 0), .x 1), (.bin .lss (.x 1) (.i .i64 (.ofNat 1)), .b true)]
theorem runNmR16_0 (e : Nat) : okA (call (tbl hyNmR16_0) 9000 17 [.x 0] ⟨H0 e , 7, 0, 0⟩) (.tu [.i .i64 (.ofNat 0), .b false]) = true := by kernel_rfl
def nuNmR16_0 (s : LB) : List Value := [St' s, .int .i64 ((s.length : Int))]
theorem pathNmR16_0 (s : LB) (b0 : s.length ≤ 9223372036854775807) (h0 : (s.length : Int) < 1) (w : World) (hl : laidE w) : CwR 17 #[St' s] w (.tuple #[.int .i64 0, .bool false]) := by
  have ho : ∀ k r, (k, r) ∈ hyNmR16_0 → HOk (cx (nuL (nuNmR16_0 s)) (fun j _ => nuL_one (l := nuNmR16_0 s) rfl j) 1 laidE laidE_stab) k r := by
    unfold hyNmR16_0
    exact hc (lnV rfl rfl (by omega)) <|
     hc (ltcT rfl (by omega)) <|
     hnil
  refine runC (tb := (tbl hyNmR16_0)) (ra := .tu [.i .i64 (.ofNat 0), .b false]) rfl ((tabkOk (nuL (nuNmR16_0 s)) (fun j _ => nuL_one (l := nuNmR16_0 s) rfl j)).hyps ho) rfl fiNNmR16.1 fiNNmR16.2 (fun e => runNmR16_0 e ) (args := [St' s]) (by simp only [RelL, Rel]; exact ⟨_, _, rfl, rfl, rfl⟩) w hl fun x hx => ?_
  simp only [Rel, RelL] at hx
  obtain ⟨_, rfl, ⟨_, _, rfl, rfl, ⟨_, _, rfl, rfl, rfl⟩⟩⟩ := hx
  rfl
def hyNmR16_1 : LK := [(.len (.x 0), .x 1), (.bin .lss (.x 1) (.i .i64 (.ofNat 1)), .b false), (.bin .gtr (.x 1) (.i .i64 (.ofNat 7)), .b true)]
theorem runNmR16_1 (e : Nat) : okA (call (tbl hyNmR16_1) 9000 17 [.x 0] ⟨H0 e , 7, 0, 0⟩) (.tu [.i .i64 (.ofNat 0), .b false]) = true := by kernel_rfl
def nuNmR16_1 (s : LB) : List Value := [St' s, .int .i64 ((s.length : Int))]
theorem pathNmR16_1 (s : LB) (b0 : s.length ≤ 9223372036854775807) (h0 : ¬ ((s.length : Int) < 1)) (h1 : 7 < (s.length : Int)) (w : World) (hl : laidE w) : CwR 17 #[St' s] w (.tuple #[.int .i64 0, .bool false]) := by
  have ho : ∀ k r, (k, r) ∈ hyNmR16_1 → HOk (cx (nuL (nuNmR16_1 s)) (fun j _ => nuL_one (l := nuNmR16_1 s) rfl j) 1 laidE laidE_stab) k r := by
    unfold hyNmR16_1
    exact hc (lnV rfl rfl (by omega)) <|
     hc (ltcF rfl (by omega)) <|
     hc (gtcT rfl (by omega)) <|
     hnil
  refine runC (tb := (tbl hyNmR16_1)) (ra := .tu [.i .i64 (.ofNat 0), .b false]) rfl ((tabkOk (nuL (nuNmR16_1 s)) (fun j _ => nuL_one (l := nuNmR16_1 s) rfl j)).hyps ho) rfl fiNNmR16.1 fiNNmR16.2 (fun e => runNmR16_1 e ) (args := [St' s]) (by simp only [RelL, Rel]; exact ⟨_, _, rfl, rfl, rfl⟩) w hl fun x hx => ?_
  simp only [Rel, RelL] at hx
  obtain ⟨_, rfl, ⟨_, _, rfl, rfl, ⟨_, _, rfl, rfl, rfl⟩⟩⟩ := hx
  rfl
def hyNmR16_2 : LK := [(.len (.x 0), .x 1), (.bin .lss (.x 1) (.i .i64 (.ofNat 1)), .b false), (.bin .gtr (.x 1) (.i .i64 (.ofNat 7)), .b false)]
def lh22 : LH := ⟨7, 7, 7, [], []⟩
def lf22 : LF := ⟨5, 32, [(0, .x 0), (5, .i .i64 (.ofNat 0)), (4, .i .i64 (.ofNat 0))], [], (.exit 0), [(4, .x 2)], some lh22⟩
noncomputable def tabNmR16_2 : Tab := addLps ({ tabk with hyp := hyNmR16_2 }) 17 fi17 [lf22]
theorem runNmR16_2 (e : Nat) : okA (call tabNmR16_2 9000 17 [.x 0] ⟨H0 e , 7, 0, 0⟩) (.tu [.x 2, .b true]) = true := by kernel_rfl
def nuNmR16_2 (s : LB) : List Value := [St' s, .int .i64 ((s.length : Int)), .int .i64 ((valF 16 s 0))]
theorem pathNmR16_2 (s : LB) (b0 : s.length ≤ 9223372036854775807) (h0 : ¬ ((s.length : Int) < 1)) (h1 : ¬ (7 < (s.length : Int))) (h2 : okB 16 s = true) (w : World) (hl : laidE w) : CwR 17 #[St' s] w (.tuple #[.int .i64 ((valF 16 s 0)), .bool true]) := by
  have ho : ∀ k r, (k, r) ∈ hyNmR16_2 → HOk (cx (nuL (nuNmR16_2 s)) (fun j _ => nuL_one (l := nuNmR16_2 s) rfl j) 1 laidE laidE_stab) k r := by
    unfold hyNmR16_2
    exact hc (lnV rfl rfl (by omega)) <|
     hc (ltcF rfl (by omega)) <|
     hc (gtcF rfl (by omega)) <|
     hnil
  refine runC (tb := tabNmR16_2) (ra := .tu [.x 2, .b true]) rfl (AllOk.lp1 ((tabkOk (nuL (nuNmR16_2 s)) (fun j _ => nuL_one (l := nuNmR16_2 s) rfl j)).hyps ho) (by omega) fi17_at fi17_body (lfCons (lpKnown rfl ⟨0, keyR16, lfOkR16_0 (l := lf22) (h := lh22) s (valF 16 s 0) (okB 16 s) (by omega) (by assumption) (0, (0 : Int), (0 : Int)) (mkIR16 s (valF 16 s 0) (okB 16 s) 0 (0 : Int) (0 : Int) ⟨by omega, by omega, by omega, by decide, rfl, rfl, by omega⟩) rfl (by kernel_rfl) (th0 := [(0, .x 0), (1, .i .i64 (.ofNat 0)), (2, .i .i64 (.ofNat 0))]) (sg0 := []) (fun X => thXv (v := St' s) rfl rfl (thCons (show Is _ (.i .i64 (.ofNat 0)) (.int .i64 ((0 : Int))) from isTo (v := .int .i64 0) (isI _ _) (by first | rfl | (congr 1; omega))) (thCons (show Is _ (.i .i64 (.ofNat 0)) (.int .i64 ((0 : Int))) from isTo (v := .int .i64 0) (isI _ _) (by first | rfl | (congr 1; omega))) (thNil)))) (by kernel_rfl) (thx := [(2, .x 0)]) (thXv (v := .int .i64 ((valF 16 s 0))) rfl rfl (thNil)) (by kernel_rfl)⟩) lfNil)) rfl (get_lps (by omega)) fiB17 (fun e => runNmR16_2 e ) (args := [St' s]) (by simp only [RelL, Rel]; exact ⟨_, _, rfl, rfl, rfl⟩) w hl fun x hx => ?_
  simp only [Rel, RelL] at hx
  obtain ⟨_, rfl, ⟨_, _, rfl, rfl, ⟨_, _, rfl, rfl, rfl⟩⟩⟩ := hx
  rfl
def hyNmR16_3 : LK := [(.len (.x 0), .x 1), (.bin .lss (.x 1) (.i .i64 (.ofNat 1)), .b false), (.bin .gtr (.x 1) (.i .i64 (.ofNat 7)), .b false)]
def lh23 : LH := ⟨7, 7, 7, [], []⟩
def lf23 : LF := ⟨5, 32, [(0, .x 0), (5, .i .i64 (.ofNat 0)), (4, .i .i64 (.ofNat 0))], [], .ret, [(2, .i .i64 (.ofNat 0)), (3, .b false)], some lh23⟩
noncomputable def tabNmR16_3 : Tab := addLps ({ tabk with hyp := hyNmR16_3 }) 17 fi17 [lf23]
theorem runNmR16_3 (e : Nat) : okA (call tabNmR16_3 9000 17 [.x 0] ⟨H0 e , 7, 0, 0⟩) (.tu [.i .i64 (.ofNat 0), .b false]) = true := by kernel_rfl
def nuNmR16_3 (s : LB) : List Value := [St' s, .int .i64 ((s.length : Int))]
theorem pathNmR16_3 (s : LB) (b0 : s.length ≤ 9223372036854775807) (h0 : ¬ ((s.length : Int) < 1)) (h1 : ¬ (7 < (s.length : Int))) (h2 : ¬ (okB 16 s = true)) (w : World) (hl : laidE w) : CwR 17 #[St' s] w (.tuple #[.int .i64 0, .bool false]) := by
  have ho : ∀ k r, (k, r) ∈ hyNmR16_3 → HOk (cx (nuL (nuNmR16_3 s)) (fun j _ => nuL_one (l := nuNmR16_3 s) rfl j) 1 laidE laidE_stab) k r := by
    unfold hyNmR16_3
    exact hc (lnV rfl rfl (by omega)) <|
     hc (ltcF rfl (by omega)) <|
     hc (gtcF rfl (by omega)) <|
     hnil
  refine runC (tb := tabNmR16_3) (ra := .tu [.i .i64 (.ofNat 0), .b false]) rfl (AllOk.lp1 ((tabkOk (nuL (nuNmR16_3 s)) (fun j _ => nuL_one (l := nuNmR16_3 s) rfl j)).hyps ho) (by omega) fi17_at fi17_body (lfCons (lpKnown rfl ⟨0, keyR16, lfOkR16_1 (l := lf23) (h := lh23) s (valF 16 s 0) (okB 16 s) (by omega) (by simpa using (by assumption : ¬ (okB 16 s = true))) (0, (0 : Int), (0 : Int)) (mkIR16 s (valF 16 s 0) (okB 16 s) 0 (0 : Int) (0 : Int) ⟨by omega, by omega, by omega, by decide, rfl, rfl, by omega⟩) rfl (by kernel_rfl) (th0 := [(0, .x 0), (1, .i .i64 (.ofNat 0)), (2, .i .i64 (.ofNat 0))]) (sg0 := []) (fun X => thXv (v := St' s) rfl rfl (thCons (show Is _ (.i .i64 (.ofNat 0)) (.int .i64 ((0 : Int))) from isTo (v := .int .i64 0) (isI _ _) (by first | rfl | (congr 1; omega))) (thCons (show Is _ (.i .i64 (.ofNat 0)) (.int .i64 ((0 : Int))) from isTo (v := .int .i64 0) (isI _ _) (by first | rfl | (congr 1; omega))) (thNil)))) (by kernel_rfl) (thx := []) (thNil) (by kernel_rfl)⟩) lfNil)) rfl (get_lps (by omega)) fiB17 (fun e => runNmR16_3 e ) (args := [St' s]) (by simp only [RelL, Rel]; exact ⟨_, _, rfl, rfl, rfl⟩) w hl fun x hx => ?_
  simp only [Rel, RelL] at hx
  obtain ⟨_, rfl, ⟨_, _, rfl, rfl, ⟨_, _, rfl, rfl, rfl⟩⟩⟩ := hx
  rfl
theorem callsNmR16 (s : LB) (b0 : s.length ≤ 9223372036854775807) (w : World) (hl : laidE w) : CwR 17 #[St' s] w (.tuple #[.int .i64 (numV 16 7 s), .bool (numB 16 7 s)]) := by
  by_cases h0 : (s.length : Int) < 1
  · rw [show (.tuple #[.int .i64 (numV 16 7 s), .bool (numB 16 7 s)] : Value) = (.tuple #[.int .i64 0, .bool false] : Value) from by first | exact nmN (.inl (by omega)) | exact nmN (.inr (.inl (by omega))) | exact nmN (.inr (.inr (by assumption))) | exact nmY (by omega) (by omega) (by assumption)]
    exact pathNmR16_0 s b0 h0 w hl
  · by_cases h1 : 7 < (s.length : Int)
    · rw [show (.tuple #[.int .i64 (numV 16 7 s), .bool (numB 16 7 s)] : Value) = (.tuple #[.int .i64 0, .bool false] : Value) from by first | exact nmN (.inl (by omega)) | exact nmN (.inr (.inl (by omega))) | exact nmN (.inr (.inr (by assumption))) | exact nmY (by omega) (by omega) (by assumption)]
      exact pathNmR16_1 s b0 h0 h1 w hl
    · by_cases h2 : okB 16 s = true
      · rw [show (.tuple #[.int .i64 (numV 16 7 s), .bool (numB 16 7 s)] : Value) = (.tuple #[.int .i64 ((valF 16 s 0)), .bool true] : Value) from by first | exact nmN (.inl (by omega)) | exact nmN (.inr (.inl (by omega))) | exact nmN (.inr (.inr (by assumption))) | exact nmY (by omega) (by omega) (by assumption)]
        exact pathNmR16_2 s b0 h0 h1 h2 w hl
      · rw [show (.tuple #[.int .i64 (numV 16 7 s), .bool (numB 16 7 s)] : Value) = (.tuple #[.int .i64 0, .bool false] : Value) from by first | exact nmN (.inl (by omega)) | exact nmN (.inr (.inl (by omega))) | exact nmN (.inr (.inr (by assumption))) | exact nmY (by omega) (by omega) (by assumption)]
        exact pathNmR16_3 s b0 h0 h1 h2 w hl
theorem hokNmR16 {x0 r : AV} {s : LB} (i0 : Is (cx nu one 1 laidE laidE_stab) x0 (St' s)) (hr : Den (cx nu one 1 laidE laidE_stab) r (.tuple #[.int .i64 (numV 16 7 s), .bool (numB 16 7 s)])) (b0 : s.length ≤ 9223372036854775807) : HOk (cx nu one 1 laidE laidE_stab) (.call 17 [x0]) r := by
  intro ρ args ha w hl _
  simp only [RelL] at ha
  obtain ⟨v0, t0, rfl, a0, rfl⟩ := ha
  have e0 := i0 ρ _ a0; subst e0
  exact (callsNmR16 s b0 w hl).mono fun e w' he => ⟨_, he.1, hr ρ, he.2⟩
end Go.Proofs.YtacflaaahanhgaaDoor.octetTells
