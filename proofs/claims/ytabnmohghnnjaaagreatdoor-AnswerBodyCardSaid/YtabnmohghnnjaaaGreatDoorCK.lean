/- A part of the proof: an interpreter of the model's own code on partly known states, and that what it answers is what the program answers. No condition of its own. -/
import Derived.Test.YtabnmohghnnjaaaGreatDoorHKN
import Derived.Test.YtabnmohghnnjaaaGreatDoorHXpart4
set_option linter.unusedSimpArgs false
set_option linter.unusedVariables false
namespace Go.AX
/- bodies in chunks -/
abbrev BL := List UInt8
theorem bt_apL {a b : List UInt8} {i : Nat} (h : i < a.length) : bt (a ++ b) i = bt a i := by
  unfold bt; rw [List.getD_eq_getElem?_getD, List.getD_eq_getElem?_getD, List.getElem?_append_left h]
theorem bt_apR {a b : List UInt8} {i : Nat} (h : a.length ≤ i) : bt (a ++ b) i = bt b (i - a.length) := by
  unfold bt; rw [List.getD_eq_getElem?_getD, List.getD_eq_getElem?_getD, List.getElem?_append_right h]
/-- a number up to 300 in base 16 -/
def hexS (n : Int) : BL := if n < 16 then [u8 (dg n)] else if n < 256 then [u8 (dg (n / 16)), u8 (dg (n % 16))] else [u8 (dg (n / 256)), u8 (dg (n / 16 % 16)), u8 (dg (n % 16))]
theorem dg_bd {x : Int} (h0 : 0 ≤ x) (h : x < 16) : (48 ≤ dg x ∧ dg x ≤ 57) ∨ (97 ≤ dg x ∧ dg x ≤ 102) := by have := dg_or x; omega
theorem hexS_1 {n : Int} (h0 : 0 ≤ n) (h : n < 16) : (hexS n).length = 1 ∧ bt (hexS n) 0 = dg n ∧ ((n < 10 ∧ dg n = n + 48) ∨ (10 ≤ n ∧ dg n = n + 87)) := by
  have hd := dg_bd h0 h
  unfold hexS; rw [if_pos h]
  exact ⟨rfl, by show ((u8 (dg n)).toNat : Int) = dg n; exact u8_toNat (by omega) (by omega), dg_or n⟩
theorem hexS_2 {n : Int} (h0 : ¬ n < 16) (h : n < 256) : (hexS n).length = 2 ∧ bt (hexS n) 0 = dg (n / 16) ∧ bt (hexS n) 1 = dg (n % 16) ∧ ((n / 16 < 10 ∧ dg (n / 16) = n / 16 + 48) ∨ (10 ≤ n / 16 ∧ dg (n / 16) = n / 16 + 87)) ∧ ((n % 16 < 10 ∧ dg (n % 16) = n % 16 + 48) ∨ (10 ≤ n % 16 ∧ dg (n % 16) = n % 16 + 87)) := by
  have hd := dg_bd (x := n / 16) (by omega) (by omega)
  have he := dg_bd (x := n % 16) (by omega) (by omega)
  unfold hexS; rw [if_neg h0, if_pos h]
  exact ⟨rfl, by show ((u8 (dg (n / 16))).toNat : Int) = _; exact u8_toNat (by omega) (by omega), by show ((u8 (dg (n % 16))).toNat : Int) = _; exact u8_toNat (by omega) (by omega), dg_or _, dg_or _⟩
theorem hexS_3 {n : Int} (h0 : ¬ n < 256) (h : n ≤ 300) : (hexS n).length = 3 ∧ bt (hexS n) 0 = 49 ∧ bt (hexS n) 1 = dg (n / 16 % 16) ∧ bt (hexS n) 2 = dg (n % 16) ∧ ((n / 16 % 16 < 10 ∧ dg (n / 16 % 16) = n / 16 % 16 + 48) ∨ (10 ≤ n / 16 % 16 ∧ dg (n / 16 % 16) = n / 16 % 16 + 87)) ∧ ((n % 16 < 10 ∧ dg (n % 16) = n % 16 + 48) ∨ (10 ≤ n % 16 ∧ dg (n % 16) = n % 16 + 87)) := by
  have hd := dg_bd (x := n / 16 % 16) (by omega) (by omega)
  have he := dg_bd (x := n % 16) (by omega) (by omega)
  have h1 : n / 256 = 1 := by omega
  unfold hexS; rw [if_neg (by omega), if_neg h0, h1]
  exact ⟨rfl, by show ((u8 (dg 1)).toNat : Int) = 49; exact u8_toNat (by decide) (by decide), by show ((u8 (dg (n / 16 % 16))).toNat : Int) = _; exact u8_toNat (by omega) (by omega), by show ((u8 (dg (n % 16))).toNat : Int) = _; exact u8_toNat (by omega) (by omega), dg_or _, dg_or _⟩
theorem hexS_len {n : Int} : 1 ≤ (hexS n).length ∧ (hexS n).length ≤ 3 := by
  unfold hexS; split
  · simp only [List.length_cons, List.length_nil]; omega
  · split
    · simp only [List.length_cons, List.length_nil]; omega
    · simp only [List.length_cons, List.length_nil]; omega
theorem hexS_bt {n : Int} (h0 : 0 ≤ n) (h : n ≤ 300) {j : Nat} (hj : j < (hexS n).length) : (48 ≤ bt (hexS n) j ∧ bt (hexS n) j ≤ 57) ∨ (97 ≤ bt (hexS n) j ∧ bt (hexS n) j ≤ 102) := by
  by_cases h1 : n < 16
  · obtain ⟨a, b, c⟩ := hexS_1 h0 h1
    obtain rfl : j = 0 := by omega
    omega
  · by_cases h2 : n < 256
    · obtain ⟨a, b, c, d, e⟩ := hexS_2 h1 h2
      rcases (by omega : j = 0 ∨ j = 1) with rfl | rfl <;> omega
    · obtain ⟨a, b, c, d, e, f⟩ := hexS_3 h2 h
      rcases (by omega : j = 0 ∨ j = 1 ∨ j = 2) with rfl | rfl | rfl <;> omega
theorem hexS_all {n : Int} (h0 : 0 ≤ n) (h : n ≤ 300) : (n < 16 ∧ bt (hexS n) 0 = dg n ∧ ((n < 10 ∧ dg n = n + 48) ∨ (10 ≤ n ∧ dg n = n + 87))) ∨
    (¬ n < 16 ∧ n < 256 ∧ bt (hexS n) 0 = dg (n / 16) ∧ bt (hexS n) 1 = dg (n % 16) ∧ ((n / 16 < 10 ∧ dg (n / 16) = n / 16 + 48) ∨ (10 ≤ n / 16 ∧ dg (n / 16) = n / 16 + 87)) ∧ ((n % 16 < 10 ∧ dg (n % 16) = n % 16 + 48) ∨ (10 ≤ n % 16 ∧ dg (n % 16) = n % 16 + 87))) ∨
    (¬ n < 256 ∧ bt (hexS n) 0 = 49 ∧ bt (hexS n) 1 = dg (n / 16 % 16) ∧ bt (hexS n) 2 = dg (n % 16) ∧ ((n / 16 % 16 < 10 ∧ dg (n / 16 % 16) = n / 16 % 16 + 48) ∨ (10 ≤ n / 16 % 16 ∧ dg (n / 16 % 16) = n / 16 % 16 + 87)) ∧ ((n % 16 < 10 ∧ dg (n % 16) = n % 16 + 48) ∨ (10 ≤ n % 16 ∧ dg (n % 16) = n % 16 + 87))) := by
  by_cases h1 : n < 16
  · exact .inl ⟨h1, (hexS_1 h0 h1).2⟩
  · by_cases h2 : n < 256
    · exact .inr (.inl ⟨h1, h2, (hexS_2 h1 h2).2⟩)
    · exact .inr (.inr ⟨h2, (hexS_3 h2 h).2⟩)
def LSTS : BL := [u8 48, u8 13, u8 10, u8 13, u8 10]
def wrS (x : BL) : BL := if x.length = 0 then [] else hexS (x.length : Int) ++ ([u8 13, u8 10] ++ (x ++ [u8 13, u8 10]))
def ckS : List BL → BL
  | [] => LSTS
  | x :: R => wrS x ++ ckS R
def hdC : List BL → BL
  | [] => []
  | x :: R => if x.length = 0 then hdC R else x
def tlC : List BL → List BL
  | [] => []
  | x :: R => if x.length = 0 then tlC R else R
def aft (c : BL) (R : List BL) : BL := if c.length = 0 then [u8 13, u8 10] else c ++ (u8 13 :: u8 10 :: ckS R)
theorem ck_flat : ∀ l : List BL, l.flatMap wrS ++ LSTS = ckS l
  | [] => rfl
  | x :: l => by rw [List.flatMap_cons, List.append_assoc, ck_flat l]; rfl
theorem ck_hd : ∀ R : List BL, ckS R = hexS ((hdC R).length : Int) ++ (u8 13 :: u8 10 :: aft (hdC R) (tlC R))
  | [] => rfl
  | x :: R => by
    unfold ckS hdC tlC wrS
    by_cases h : x.length = 0
    · rw [if_pos h, if_pos h, if_pos h]; exact ck_hd R
    · rw [if_neg h, if_neg h, if_neg h]
      unfold aft; rw [if_neg h]
      simp only [List.append_assoc, List.cons_append, List.nil_append]
theorem fl_hd : ∀ R : List BL, R.flatten = hdC R ++ (tlC R).flatten
  | [] => rfl
  | x :: R => by
    unfold hdC tlC
    by_cases h : x.length = 0
    · rw [if_pos h, if_pos h, List.flatten_cons, List.eq_nil_of_length_eq_zero h]; exact fl_hd R
    · rw [if_neg h, if_neg h, List.flatten_cons]
theorem tl_nil : ∀ R : List BL, (hdC R).length = 0 → tlC R = []
  | [], _ => rfl
  | x :: R, h => by
    unfold hdC at h; unfold tlC
    by_cases h0 : x.length = 0
    · rw [if_pos h0] at h ⊢; exact tl_nil R h
    · rw [if_neg h0] at h; exact absurd h h0
def ok3 (l : List BL) : Prop := ∀ q, q ∈ l → q.length ≤ 300
theorem hd_le : ∀ R : List BL, ok3 R → (hdC R).length ≤ 300 ∧ ok3 (tlC R)
  | [], h => ⟨by decide, h⟩
  | x :: R, h => by
    have hR : ok3 R := fun q hq => h q (List.mem_cons_of_mem _ hq)
    unfold hdC tlC
    by_cases h0 : x.length = 0
    · rw [if_pos h0, if_pos h0]; exact hd_le R hR
    · rw [if_neg h0, if_neg h0]; exact ⟨h x (List.mem_cons_self ..), hR⟩
theorem ok3_snoc {l : List BL} {i : Int} (h0 : 0 ≤ i) (h1 : i < (l.length : Int)) (h : ok3 (l.take i.toNat)) (c : (nthS l i.toNat).length ≤ 300) : ok3 (l.take (i + 1).toNat) := by
  have hi : i.toNat < l.length := by omega
  have e : l.take (i + 1).toNat = l.take i.toNat ++ [nthS l i.toNat] := by
    rw [show (i + 1).toNat = i.toNat + 1 by omega, List.take_add_one, List.getElem?_eq_getElem hi]
    simp only [nthS, List.getD_eq_getElem?_getD, List.getElem?_eq_getElem hi, Option.toList_some, Option.getD_some]
  rw [e]; intro q hq
  rcases List.mem_append.1 hq with hq | hq
  · exact h q hq
  · rw [List.mem_singleton.1 hq]; exact c
theorem takeN {l : List BL} {i : Int} (h0 : 0 ≤ i) (h1 : i < (l.length : Int)) : l.take (i + 1).toNat = l.take i.toNat ++ [nthS l i.toNat] := by
  have hi : i.toNat < l.length := by omega
  rw [show (i + 1).toNat = i.toNat + 1 by omega, List.take_add_one, List.getElem?_eq_getElem hi]
  simp only [nthS, List.getD_eq_getElem?_getD, List.getElem?_eq_getElem hi, Option.toList_some, Option.getD_some]
theorem ok3_end {l : List BL} {i : Int} (h0 : 0 ≤ i) (h1 : ¬ i < (l.length : Int)) (h : ok3 (l.take i.toNat)) : ok3 l := by
  rw [List.take_of_length_le (by omega)] at h; exact h
/-- a part of a response of status st -/
def ptS (st : Int) (x : BL) : BL := if st = 204 ∨ st = 304 then [] else wrS x
theorem pt_snoc {st : Int} {l : List BL} {i : Int} {T : BL} (h0 : 0 ≤ i) (h1 : i < (l.length : Int)) (h : T = (l.take i.toNat).flatMap (ptS st)) : T ++ ptS st (nthS l i.toNat) = (l.take (i + 1).toNat).flatMap (ptS st) := by
  rw [takeN h0 h1, List.flatMap_append, List.flatMap_cons, List.flatMap_nil, List.append_nil, h]
theorem pt_end {st : Int} {l : List BL} {i : Int} {T : BL} (h1 : ¬ i < (l.length : Int)) (h : T = (l.take i.toNat).flatMap (ptS st)) : T = l.flatMap (ptS st) := by
  rw [List.take_of_length_le (by omega)] at h; exact h
theorem fl_snoc {l : List BL} {i : Int} {T : BL} (h0 : 0 ≤ i) (h1 : i < (l.length : Int)) (h : T = (l.take i.toNat).flatten) : T ++ nthS l i.toNat = (l.take (i + 1).toNat).flatten := by
  rw [takeN h0 h1, List.flatten_append, List.flatten_cons, List.flatten_nil, List.append_nil, h]
theorem fl_end {l : List BL} {i : Int} {T : BL} (h1 : ¬ i < (l.length : Int)) (h : T = (l.take i.toNat).flatten) : T = l.flatten := by
  rw [List.take_of_length_le (by omega)] at h; exact h
theorem wr_len (x : BL) : (wrS x).length ≤ 7 + x.length := by
  have := hexS_len (n := (x.length : Int))
  unfold wrS; split
  · simp
  · simp only [List.length_append, List.length_cons, List.length_nil]; omega
theorem pt_len (st : Int) (x : BL) : (ptS st x).length ≤ 7 + x.length := by
  unfold ptS; split
  · simp
  · exact wr_len x
theorem pts_len (st : Int) : ∀ l : List BL, ok3 l → (l.flatMap (ptS st)).length ≤ 307 * l.length ∧ l.flatten.length ≤ 300 * l.length
  | [], _ => ⟨Nat.le_refl _, Nat.le_refl _⟩
  | x :: l, h => by
    have a := pts_len st l fun q hq => h q (List.mem_cons_of_mem _ hq)
    have b := pt_len st x; have c := h x (List.mem_cons_self ..)
    rw [List.flatMap_cons, List.flatten_cons, List.length_append, List.length_append, List.length_cons]; omega
theorem pts_0 {st : Int} (h : st = 204 ∨ st = 304) : ∀ l : List BL, l.flatMap (ptS st) = []
  | [] => rfl
  | x :: l => by rw [List.flatMap_cons, pts_0 h l]; unfold ptS; rw [if_pos h]; rfl
theorem pts_1 {st : Int} (h : ¬ (st = 204 ∨ st = 304)) (l : List BL) : l.flatMap (ptS st) ++ LSTS = ckS l := by
  have e : ptS st = wrS := funext fun x => by unfold ptS; rw [if_neg h]
  rw [e]; exact ck_flat l
/-- where the reader is -/
def rsS (tag : Nat) (X c : BL) (R : List BL) : BL :=
  if tag = 0 then X ++ (u8 13 :: u8 10 :: aft c R) else if tag = 1 then u8 10 :: aft c R else if tag = 2 then c ++ (u8 13 :: u8 10 :: ckS R)
  else if tag = 3 then u8 13 :: u8 10 :: ckS R else if tag = 4 then u8 10 :: ckS R else if tag = 5 then [u8 13, u8 10] else if tag = 6 then [u8 10] else []
theorem nxC {s Y : BL} {b : UInt8} {i : Int} (h0 : 0 ≤ i) (h : s.drop i.toNat = b :: Y) : i < (s.length : Int) ∧ bt s i.toNat = (b.toNat : Int) ∧ s.drop (i + 1).toNat = Y := by
  have hl := congrArg List.length h
  rw [List.length_drop, List.length_cons] at hl
  have hi : i.toNat < s.length := by omega
  have e := List.drop_eq_getElem_cons hi
  rw [h] at e
  injection e with e1 e2
  refine ⟨by omega, ?_, ?_⟩
  · unfold bt; rw [List.getD_eq_getElem?_getD, List.getElem?_eq_getElem hi, Option.getD_some, e1]
  · rw [show (i + 1).toNat = i.toNat + 1 by omega]; exact e2.symm
theorem consE {X : BL} (h : ¬ X.length = 0) : X = u8 (bt X 0) :: X.drop 1 := by
  cases X with
  | nil => exact absurd rfl h
  | cons a X =>
    show a :: X = u8 (bt (a :: X) 0) :: X
    have e : bt (a :: X) 0 = (a.toNat : Int) := rfl
    have : u8 ((a.toNat : Nat) : Int) = a := by unfold u8; rw [Int.toNat_natCast]; simp
    rw [e, this]
theorem u8n {x : Int} (h0 : 0 ≤ x) (h : x ≤ 255) : ((u8 x).toNat : Int) = x := u8_toNat h0 h
/-- a digit of the size -/
theorem rA {s X c L : BL} {R : List BL} {i : Int} (h0 : 0 ≤ i) (hX : ¬ X.length = 0) (h : s.drop i.toNat = rsS 0 X c R) (hL : L ++ X = hexS (c.length : Int)) (hc : c.length ≤ 300) :
    i < (s.length : Int) ∧ ((48 ≤ bt s i.toNat ∧ bt s i.toNat ≤ 57) ∨ (97 ≤ bt s i.toNat ∧ bt s i.toNat ≤ 102)) ∧ s.drop (i + 1).toNat = rsS 0 (X.drop 1) c R ∧ (L ++ [u8 (bt s i.toNat)]) ++ X.drop 1 = hexS (c.length : Int) ∧ L.length + X.length ≤ 3 := by
  have e := consE hX
  have h' : s.drop i.toNat = u8 (bt X 0) :: (X.drop 1 ++ (u8 13 :: u8 10 :: aft c R)) := by
    rw [h]; show X ++ _ = _; conv => lhs; rw [e]
    rfl
  obtain ⟨a, b, d⟩ := nxC h0 h'
  have hb := bt_lo X 0; have hb2 := bt_hi X 0
  rw [u8n hb hb2] at b
  have hll := congrArg List.length hL
  have h3 := hexS_len (n := (c.length : Int))
  rw [List.length_append] at hll
  refine ⟨a, ?_, d, ?_, by omega⟩
  · have hj : bt (hexS (c.length : Int)) L.length = bt X 0 := by rw [← hL, bt_apR (Nat.le_refl _), Nat.sub_self]
    have := hexS_bt (n := (c.length : Int)) (by omega) (by omega) (j := L.length) (by omega)
    rw [hj, ← b] at this; exact this
  · rw [← hL, b, List.append_assoc]; congr 1
    rw [show [u8 (bt X 0)] ++ X.drop 1 = u8 (bt X 0) :: X.drop 1 from rfl, ← e]
theorem rA2 {s X c L : BL} {R : List BL} {i : Int} (h0 : 0 ≤ i) (hX : X.length = 0) (h : s.drop i.toNat = rsS 0 X c R) (hL : L ++ X = hexS (c.length : Int)) :
    i < (s.length : Int) ∧ bt s i.toNat = 13 ∧ s.drop (i + 1).toNat = rsS 1 X c R ∧ L = hexS (c.length : Int) := by
  rw [List.eq_nil_of_length_eq_zero hX] at h hL ⊢
  obtain ⟨a, b, d⟩ := nxC h0 (b := u8 13) (Y := u8 10 :: aft c R) h
  rw [List.append_nil] at hL
  exact ⟨a, b, d, hL⟩
theorem rB {s X c : BL} {R : List BL} {i : Int} (h0 : 0 ≤ i) (h : s.drop i.toNat = rsS 1 X c R) (hR : c.length = 0 → R = []) :
    i < (s.length : Int) ∧ bt s i.toNat = 10 ∧ (¬ c.length = 0 → s.drop (i + 1).toNat = rsS 2 X c R) ∧ (c.length = 0 → s.drop (i + 1).toNat = rsS 5 X c R ∧ c = [] ∧ R = []) := by
  obtain ⟨a, b, d⟩ := nxC h0 (b := u8 10) (Y := aft c R) h
  refine ⟨a, b, fun hc => ?_, fun hc => ⟨?_, List.eq_nil_of_length_eq_zero hc, hR hc⟩⟩
  · rw [d]; unfold aft; rw [if_neg hc]; rfl
  · rw [d]; unfold aft; rw [if_pos hc]; rfl
theorem rC {s X c D W : BL} {R : List BL} {i : Int} (h0 : 0 ≤ i) (hc : 1 ≤ c.length) (h : s.drop i.toNat = rsS 2 X c R) (hW : W = D ++ (c ++ R.flatten)) :
    i < (s.length : Int) ∧ W = (D ++ [u8 (bt s i.toNat)]) ++ (c.drop 1 ++ R.flatten) ∧ (¬ c.length = 1 → s.drop (i + 1).toNat = rsS 2 X (c.drop 1) R) ∧ (c.length = 1 → s.drop (i + 1).toNat = rsS 3 X (c.drop 1) R ∧ c.drop 1 = []) := by
  have e := consE (X := c) (by omega)
  have h' : s.drop i.toNat = u8 (bt c 0) :: (c.drop 1 ++ (u8 13 :: u8 10 :: ckS R)) := by
    rw [h]; show c ++ _ = _; conv => lhs; rw [e]
    rfl
  obtain ⟨a, b, d⟩ := nxC h0 h'
  rw [u8n (bt_lo _ _) (bt_hi _ _)] at b
  refine ⟨a, ?_, fun h1 => d, fun h1 => ?_⟩
  · rw [b, hW, List.append_assoc]; congr 1
    conv => lhs; rw [e]
    rfl
  · have e1 : c.drop 1 = [] := List.eq_nil_of_length_eq_zero (by rw [List.length_drop]; omega)
    rw [e1] at d ⊢; exact ⟨d, rfl⟩
theorem rD {s X c : BL} {R : List BL} {i : Int} (h0 : 0 ≤ i) (h : s.drop i.toNat = rsS 3 X c R) : i < (s.length : Int) ∧ bt s i.toNat = 13 ∧ s.drop (i + 1).toNat = rsS 4 X c R := nxC h0 (b := u8 13) h
theorem rE {s X c D W : BL} {R : List BL} {i : Int} (h0 : 0 ≤ i) (h : s.drop i.toNat = rsS 4 X c R) (hc : c = []) (hW : W = D ++ (c ++ R.flatten)) (h3 : ok3 R) :
    i < (s.length : Int) ∧ bt s i.toNat = 10 ∧ s.drop (i + 1).toNat = rsS 0 (hexS ((hdC R).length : Int)) (hdC R) (tlC R) ∧ W = D ++ (hdC R ++ (tlC R).flatten) ∧ ok3 (tlC R) ∧ (hdC R).length ≤ 300 ∧ ((hdC R).length = 0 → tlC R = []) := by
  obtain ⟨a, b, d⟩ := nxC h0 (b := u8 10) (Y := ckS R) h
  have g := hd_le R h3
  rw [ck_hd] at d
  exact ⟨a, b, d, by rw [hW, hc, fl_hd R]; rfl, g.2, g.1, tl_nil R⟩
theorem rF {s X c : BL} {R : List BL} {i : Int} (h0 : 0 ≤ i) (h : s.drop i.toNat = rsS 5 X c R) : i < (s.length : Int) ∧ bt s i.toNat = 13 ∧ s.drop (i + 1).toNat = rsS 6 X c R := nxC h0 (b := u8 13) (Y := [u8 10]) h
theorem rG {s X c : BL} {R : List BL} {i : Int} (h0 : 0 ≤ i) (h : s.drop i.toNat = rsS 6 X c R) : i < (s.length : Int) ∧ bt s i.toNat = 10 ∧ s.drop (i + 1).toNat = rsS 7 X c R := nxC h0 (b := u8 10) (Y := []) h
theorem rH {s X c : BL} {R : List BL} {i : Int} (h0 : 0 ≤ i) (h : s.drop i.toNat = rsS 7 X c R) : (s.length : Int) ≤ i := by
  have := congrArg List.length h
  rw [List.length_drop] at this
  have e : (rsS 7 X c R).length = 0 := rfl
  omega
theorem ck_start (l : List BL) : (ckS l).drop (Int.toNat 0) = rsS 0 (hexS ((hdC l).length : Int)) (hdC l) (tlC l) := ck_hd l
end Go.AX
