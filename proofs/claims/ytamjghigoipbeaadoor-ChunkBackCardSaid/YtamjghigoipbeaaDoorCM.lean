/- A part of the proof: an interpreter of the model's own code on partly known states, and that what it answers is what the program answers. No condition of its own. -/
import Derived.Test.YtamjghigoipbeaaDoorCK
set_option linter.unusedSimpArgs false
set_option linter.unusedVariables false
namespace Go.AX
/- a reader of bodies in chunks, as it stands behind so many bytes -/
structure CS where
  w : Int
  L : BL
  cr : Bool
  left : Int
  D : BL
def nib (b : UInt8) : Int := if (b.toNat : Int) < 58 then (b.toNat : Int) - 48 else (b.toNat : Int) - 87
def hexN (s : BL) : Int := s.foldl (fun n b => n * 16 + nib b) 0
theorem nib_dg {x : Int} (h0 : 0 ≤ x) (h : x < 16) : nib (u8 (dg x)) = x := by
  have hd := dg_or x
  have e : ((u8 (dg x)).toNat : Int) = dg x := u8_toNat (by omega) (by omega)
  unfold nib; rw [e]; split <;> omega
theorem hexN_S {n : Int} (h0 : 0 ≤ n) (h : n ≤ 300) : hexN (hexS n) = n := by
  unfold hexS hexN
  split
  · simp only [List.foldl_cons, List.foldl_nil, nib_dg h0 (by omega : n < 16)]; omega
  · split
    · simp only [List.foldl_cons, List.foldl_nil, nib_dg (x := n / 16) (by omega) (by omega), nib_dg (x := n % 16) (by omega) (by omega)]; omega
    · simp only [List.foldl_cons, List.foldl_nil, nib_dg (x := n / 256) (by omega) (by omega), nib_dg (x := n / 16 % 16) (by omega) (by omega), nib_dg (x := n % 16) (by omega) (by omega)]; omega
def stp (σ : CS) (b : UInt8) : CS :=
  if σ.w = 1 then ⟨if σ.left = 1 then 2 else 1, σ.L, false, σ.left - 1, σ.D ++ [b]⟩
  else if (b.toNat : Int) = 13 then ⟨σ.w, σ.L, true, σ.left, σ.D⟩
  else if (b.toNat : Int) = 10 then
    (if σ.w = 0 then (if hexN σ.L = 0 then ⟨3, [], false, σ.left, σ.D⟩ else ⟨1, [], false, hexN σ.L, σ.D⟩)
     else if σ.w = 2 then ⟨0, [], false, σ.left, σ.D⟩ else ⟨4, [], false, σ.left, σ.D⟩)
  else ⟨σ.w, σ.L ++ [b], σ.cr, σ.left, σ.D⟩
def cs0 : CS := ⟨0, [], false, 0, []⟩
def stA (l : List BL) (j : Nat) : CS := ((ckS l).take j).foldl stp cs0
inductive VS (W : BL) : CS → BL → Prop
  | a {L xs c D : BL} {R : List BL} {lf : Int} (h1 : L ++ xs = hexS (c.length : Int)) (h2 : c.length ≤ 300) (h3 : ok3 R) (h4 : W = D ++ (c ++ R.flatten)) (h5 : c.length = 0 → R = []) : VS W ⟨0, L, false, lf, D⟩ (xs ++ (u8 13 :: u8 10 :: aft c R))
  | b {c D : BL} {R : List BL} {lf : Int} (h2 : c.length ≤ 300) (h3 : ok3 R) (h4 : W = D ++ (c ++ R.flatten)) (h5 : c.length = 0 → R = []) : VS W ⟨0, hexS (c.length : Int), true, lf, D⟩ (u8 10 :: aft c R)
  | d {c D : BL} {R : List BL} (h1 : 1 ≤ c.length) (h2 : c.length ≤ 300) (h3 : ok3 R) (h4 : W = D ++ (c ++ R.flatten)) : VS W ⟨1, [], false, (c.length : Int), D⟩ (c ++ (u8 13 :: u8 10 :: ckS R))
  | e {D : BL} {R : List BL} {lf : Int} (hD : 1 ≤ D.length) (h3 : ok3 R) (h4 : W = D ++ R.flatten) : VS W ⟨2, [], false, lf, D⟩ (u8 13 :: u8 10 :: ckS R)
  | f {D : BL} {R : List BL} {lf : Int} (hD : 1 ≤ D.length) (h3 : ok3 R) (h4 : W = D ++ R.flatten) : VS W ⟨2, [], true, lf, D⟩ (u8 10 :: ckS R)
  | g {D : BL} {lf : Int} (h4 : W = D) : VS W ⟨3, [], false, lf, D⟩ [u8 13, u8 10]
  | h {D : BL} {lf : Int} (h4 : W = D) : VS W ⟨3, [], true, lf, D⟩ [u8 10]
  | k {D : BL} {lf : Int} (h4 : W = D) : VS W ⟨4, [], false, lf, D⟩ []
theorem n13 : ((u8 13).toNat : Int) = 13 := by decide
theorem n10 : ((u8 10).toNat : Int) = 10 := by decide
theorem ck_VS {W D : BL} {lf : Int} {R : List BL} (h3 : ok3 R) (h4 : W = D ++ R.flatten) : VS W ⟨0, [], false, lf, D⟩ (ckS R) := by
  have g := hd_le R h3
  rw [ck_hd]
  exact VS.a (by rfl) g.1 g.2 (by rw [h4, fl_hd R]) (tl_nil R)
theorem digit_of {L xs : BL} {x : UInt8} {n : Int} (h0 : 0 ≤ n) (h : n ≤ 300) (e : L ++ x :: xs = hexS n) : ((48 ≤ (x.toNat : Int) ∧ (x.toNat : Int) ≤ 57) ∨ (97 ≤ (x.toNat : Int) ∧ (x.toNat : Int) ≤ 102)) ∧ L.length ≤ 2 := by
  have hl := congrArg List.length e
  rw [List.length_append, List.length_cons] at hl
  have h3 := hexS_len (n := n)
  have hb := hexS_bt h0 h (j := L.length) (by omega)
  rw [← e, bt_apR (Nat.le_refl _), Nat.sub_self] at hb
  exact ⟨hb, by omega⟩
theorem VS.step {W : BL} {σ : CS} {s : BL} (h : VS W σ s) : ∀ {b : UInt8} {rest : BL}, s = b :: rest → VS W (stp σ b) rest := by
  intro b rest e
  cases h with
  | @a L xs c D R lf h1 h2 h3 h4 h5 =>
    cases xs with
    | nil =>
      injection e with e1 e2
      subst e1; subst e2
      rw [List.append_nil] at h1
      subst h1
      have es : stp ⟨0, hexS (c.length : Int), false, lf, D⟩ (u8 13) = ⟨0, hexS (c.length : Int), true, lf, D⟩ := by
        unfold stp; rw [if_neg (by first | decide | (dsimp only; decide)), n13, if_pos rfl]
      rw [es]
      exact VS.b h2 h3 h4 h5
    | cons x xs =>
      injection e with e1 e2
      subst e1; subst e2
      have hd := (digit_of (n := (c.length : Int)) (by omega) (by omega) h1).1
      have es : stp ⟨0, L, false, lf, D⟩ x = ⟨0, L ++ [x], false, lf, D⟩ := by
        unfold stp; rw [if_neg (by first | decide | (dsimp only; decide)), if_neg (by omega), if_neg (by omega)]
      rw [es]
      exact VS.a (by rw [List.append_assoc]; exact h1) h2 h3 h4 h5
  | @b c D R lf h2 h3 h4 h5 =>
    injection e with e1 e2
    subst e1; subst e2
    have hN : hexN (hexS (c.length : Int)) = (c.length : Int) := hexN_S (by omega) (by omega)
    by_cases hc : c.length = 0
    · have es : stp ⟨0, hexS (c.length : Int), true, lf, D⟩ (u8 10) = ⟨3, [], false, lf, D⟩ := by
        unfold stp; rw [if_neg (by first | decide | (dsimp only; decide)), n10, if_neg (by first | decide | (dsimp only; decide)), if_pos rfl, if_pos rfl, if_pos (by rw [hN]; omega)]
      rw [es]; unfold aft; rw [if_pos hc]
      have hc' := List.eq_nil_of_length_eq_zero hc
      rw [h5 hc, hc'] at h4
      exact VS.g (by rw [h4]; simp)
    · have es : stp ⟨0, hexS (c.length : Int), true, lf, D⟩ (u8 10) = ⟨1, [], false, (c.length : Int), D⟩ := by
        unfold stp; rw [if_neg (by first | decide | (dsimp only; decide)), n10, if_neg (by first | decide | (dsimp only; decide)), if_pos rfl, if_pos rfl, if_neg (by rw [hN]; omega), hN]
      rw [es]; unfold aft; rw [if_neg hc]
      exact VS.d (by omega) h2 h3 h4
  | @d c D R h1 h2 h3 h4 =>
    cases c with
    | nil => simp at h1
    | cons x c =>
      injection e with e1 e2
      subst e1; subst e2
      by_cases hc : c.length = 0
      · have es : stp ⟨1, [], false, ((x :: c).length : Int), D⟩ x = ⟨2, [], false, ((x :: c).length : Int) - 1, D ++ [x]⟩ := by
          unfold stp; rw [if_pos rfl, if_pos (by rw [List.length_cons]; show ((c.length + 1 : Nat) : Int) = 1; omega)]
        rw [es, List.eq_nil_of_length_eq_zero hc]
        exact VS.e (by simp) h3 (by rw [h4, List.eq_nil_of_length_eq_zero hc]; simp)
      · have es : stp ⟨1, [], false, ((x :: c).length : Int), D⟩ x = ⟨1, [], false, (c.length : Int), D ++ [x]⟩ := by
          unfold stp; rw [if_pos rfl, if_neg (by rw [List.length_cons]; show ¬ ((c.length + 1 : Nat) : Int) = 1; omega)]
          congr 1; rw [List.length_cons]; show ((c.length + 1 : Nat) : Int) - 1 = _; omega
        rw [es]
        exact VS.d (by omega) (by rw [List.length_cons] at h2; omega) h3 (by rw [h4]; simp)
  | @e D R lf hD h3 h4 =>
    injection e with e1 e2
    subst e1; subst e2
    have es : stp ⟨2, [], false, lf, D⟩ (u8 13) = ⟨2, [], true, lf, D⟩ := by unfold stp; rw [if_neg (by first | decide | (dsimp only; decide)), n13, if_pos rfl]
    rw [es]; exact VS.f hD h3 h4
  | @f D R lf hD h3 h4 =>
    injection e with e1 e2
    subst e1; subst e2
    have es : stp ⟨2, [], true, lf, D⟩ (u8 10) = ⟨0, [], false, lf, D⟩ := by unfold stp; rw [if_neg (by first | decide | (dsimp only; decide)), n10, if_neg (by first | decide | (dsimp only; decide)), if_pos rfl, if_neg (by first | decide | (dsimp only; decide)), if_pos rfl]
    rw [es]; exact ck_VS h3 h4
  | @g D lf h4 =>
    injection e with e1 e2
    subst e1; subst e2
    have es : stp ⟨3, [], false, lf, D⟩ (u8 13) = ⟨3, [], true, lf, D⟩ := by unfold stp; rw [if_neg (by first | decide | (dsimp only; decide)), n13, if_pos rfl]
    rw [es]; exact VS.h h4
  | @h D lf h4 =>
    injection e with e1 e2
    subst e1; subst e2
    have es : stp ⟨3, [], true, lf, D⟩ (u8 10) = ⟨4, [], false, lf, D⟩ := by unfold stp; rw [if_neg (by first | decide | (dsimp only; decide)), n10, if_neg (by first | decide | (dsimp only; decide)), if_pos rfl, if_neg (by first | decide | (dsimp only; decide)), if_neg (by first | decide | (dsimp only; decide))]
    rw [es]; exact VS.k h4
  | k => cases e
theorem stA_succ {l : List BL} {j : Nat} (h : j < (ckS l).length) : stA l (j + 1) = stp (stA l j) ((ckS l)[j]) := by
  unfold stA; rw [List.take_add_one, List.getElem?_eq_getElem h, Option.toList_some, List.foldl_append]; rfl
theorem stA_ok {l : List BL} (h : ok3 l) : ∀ j, j ≤ (ckS l).length → VS l.flatten (stA l j) ((ckS l).drop j)
  | 0, _ => ck_VS (lf := 0) (D := []) h rfl
  | j + 1, hj => by
    have hv := stA_ok h j (by omega)
    rw [stA_succ (by omega)]
    exact hv.step (List.drop_eq_getElem_cons (by omega))
/- what is known of it by its place -/
def wA (l : List BL) (i : Int) : Int := (stA l i.toNat).w
def lnA (l : List BL) (i : Int) : BL := (stA l i.toNat).L
def cA (l : List BL) (i : Int) : Bool := (stA l i.toNat).cr
def fA (l : List BL) (i : Int) : Int := (stA l i.toNat).left
def DA (l : List BL) (i : Int) : BL := (stA l i.toNat).D
def nA (l : List BL) : Int := ((ckS l).length : Int)
structure Nx (l : List BL) (i j : Int) (w f : Int) (L D : BL) (c : Bool) : Prop where
  w : wA l j = w
  f : fA l j = f
  L : lnA l j = L
  D : DA l j = D
  c : cA l j = c
theorem nx_of {l : List BL} {i j : Int} (hj : j = i + 1) (h0 : 0 ≤ i) (h1 : i < nA l) {σ : CS} (h : stp (stA l i.toNat) ((ckS l)[i.toNat]'(by unfold nA at h1; omega)) = σ) : Nx l i j σ.w σ.left σ.L σ.D σ.cr := by
  have e : stA l j.toNat = σ := by
    rw [← h, show j.toNat = i.toNat + 1 by omega]; exact stA_succ _
  exact ⟨by unfold wA; rw [e], by unfold fA; rw [e], by unfold lnA; rw [e], by unfold DA; rw [e], by unfold cA; rw [e]⟩
theorem bt_get {s : BL} {i : Nat} (h : i < s.length) : bt s i = ((s[i]).toNat : Int) := by
  unfold bt; rw [List.getD_eq_getElem?_getD, List.getElem?_eq_getElem h, Option.getD_some]
theorem stEq {σ : CS} : σ = ⟨σ.w, σ.L, σ.cr, σ.left, σ.D⟩ := rfl
theorem st_at {l : List BL} {i : Int} : stA l i.toNat = ⟨wA l i, lnA l i, cA l i, fA l i, DA l i⟩ := rfl
/-- anywhere -/
theorem any_ {l : List BL} {i : Int} (h : ok3 l) (h0 : 0 ≤ i) (h1 : i ≤ nA l) : (wA l i = 4 ↔ i = nA l) ∧ (wA l i = 4 → DA l i = l.flatten ∧ cA l i = false) ∧ 0 ≤ wA l i ∧ wA l i ≤ 4 ∧ (lnA l i).length ≤ 3 ∧ (DA l i).length ≤ l.flatten.length ∧ (wA l i = 1 → cA l i = false) ∧ (wA l i = 2 → 1 ≤ (DA l i).length) := by
  have hv := stA_ok h i.toNat (by unfold nA at h1; omega)
  have hl : ((ckS l).drop i.toNat).length = (ckS l).length - i.toNat := List.length_drop
  unfold nA at h1 ⊢
  rw [st_at] at hv
  generalize (ckS l).drop i.toNat = s at hv hl
  generalize wA l i = w at hv ⊢
  generalize lnA l i = L at hv ⊢
  generalize cA l i = c at hv ⊢
  generalize fA l i = f at hv ⊢
  generalize DA l i = D at hv ⊢
  generalize l.flatten = W at hv ⊢
  cases hv with
  | a g1 g2 g3 g4 g5 =>
    have := congrArg List.length g1; have h3 := hexS_len (n := ((‹BL› : BL).length : Int))
    simp only [List.length_append, List.length_cons] at this hl
    have h4 := congrArg List.length g4
    simp only [List.length_append] at h4
    rename_i xs c R
    have h3 := hexS_len (n := (c.length : Int))
    exact ⟨by omega, by omega, by omega, by omega, by omega, by omega, fun _ => rfl, by omega⟩
  | b g2 g3 g4 g5 =>
    simp only [List.length_cons] at hl
    have h4 := congrArg List.length g4
    simp only [List.length_append] at h4
    exact ⟨by omega, by omega, by omega, by omega, hexS_len.2, by omega, by omega, by omega⟩
  | d g1 g2 g3 g4 =>
    simp only [List.length_append, List.length_cons] at hl
    have h4 := congrArg List.length g4
    simp only [List.length_append] at h4
    exact ⟨by omega, by omega, by omega, by omega, by decide, by omega, fun _ => rfl, by omega⟩
  | e gD g3 g4 =>
    simp only [List.length_cons] at hl
    have h4 := congrArg List.length g4
    simp only [List.length_append] at h4
    exact ⟨by omega, by omega, by omega, by omega, by decide, by omega, fun _ => rfl, fun _ => gD⟩
  | f gD g3 g4 =>
    simp only [List.length_cons] at hl
    have h4 := congrArg List.length g4
    simp only [List.length_append] at h4
    exact ⟨by omega, by omega, by omega, by omega, by decide, by omega, by omega, fun _ => gD⟩
  | g g4 => subst g4; simp only [List.length_cons] at hl; exact ⟨by omega, by omega, by omega, by omega, by decide, Nat.le_refl _, fun _ => rfl, by omega⟩
  | h g4 => subst g4; simp only [List.length_cons] at hl; exact ⟨by omega, by omega, by omega, by omega, by decide, Nat.le_refl _, by omega, by omega⟩
  | k g4 => subst g4; simp only [List.length_nil] at hl; exact ⟨by omega, fun _ => ⟨rfl, rfl⟩, by omega, by omega, by decide, Nat.le_refl _, fun _ => rfl, by omega⟩
theorem VS.c0 {W s : BL} {σ : CS} (h : VS W σ s) {b : UInt8} {rest : BL} (e : s = b :: rest) (hw : σ.w = 0) (hc : σ.cr = false) :
    (((48 ≤ (b.toNat : Int) ∧ (b.toNat : Int) ≤ 57) ∨ (97 ≤ (b.toNat : Int) ∧ (b.toNat : Int) ≤ 102)) ∧ stp σ b = ⟨0, σ.L ++ [b], false, σ.left, σ.D⟩ ∧ σ.L.length ≤ 2) ∨ ((b.toNat : Int) = 13 ∧ stp σ b = ⟨0, σ.L, true, σ.left, σ.D⟩) := by
  cases h <;> simp only [] at hw hc <;> try (first | (cases hc; done) | omega)
  rename_i L xs c D R lf h1 h2 h3 h4 h5
  cases xs with
  | nil =>
    injection e with e1 e2
    subst e1
    right
    exact ⟨n13, by unfold stp; rw [if_neg (by first | decide | (dsimp only; decide)), n13, if_pos rfl]⟩
  | cons x xs =>
    injection e with e1 e2
    subst e1
    have hd := digit_of (n := (c.length : Int)) (by omega) (by omega) h1
    left
    exact ⟨hd.1, by unfold stp; rw [if_neg (by first | decide | (dsimp only; decide)), if_neg (by omega), if_neg (by omega)], hd.2⟩
theorem VS.c0c {W s : BL} {σ : CS} (h : VS W σ s) {b : UInt8} {rest : BL} (e : s = b :: rest) (hw : σ.w = 0) (hc : σ.cr = true) :
    (b.toNat : Int) = 10 ∧ 0 ≤ hexN σ.L ∧ hexN σ.L ≤ 300 ∧ σ.L = hexS (hexN σ.L) ∧ (σ.D.length : Int) + hexN σ.L ≤ W.length ∧ (hexN σ.L = 0 → stp σ b = ⟨3, [], false, σ.left, σ.D⟩) ∧ (¬ hexN σ.L = 0 → stp σ b = ⟨1, [], false, hexN σ.L, σ.D⟩) := by
  cases h <;> simp only [] at hw hc <;> try (first | (cases hc; done) | omega)
  rename_i c D R lf h2 h3 h4 h5
  injection e with e1 e2
  subst e1
  have hN : hexN (hexS (c.length : Int)) = (c.length : Int) := hexN_S (by omega) (by omega)
  have hl := congrArg List.length h4
  simp only [List.length_append] at hl
  simp only [hN]
  refine ⟨n10, by omega, by omega, trivial, by omega, fun hz => ?_, fun hz => ?_⟩
  · unfold stp; rw [if_neg (by first | decide | (dsimp only; decide)), n10, if_neg (by first | decide | (dsimp only; decide)), if_pos rfl, if_pos rfl, if_pos (by rw [hN]; omega)]
  · unfold stp; rw [if_neg (by first | decide | (dsimp only; decide)), n10, if_neg (by first | decide | (dsimp only; decide)), if_pos rfl, if_pos rfl, if_neg (by rw [hN]; omega), hN]
theorem VS.c1 {W s : BL} {σ : CS} (h : VS W σ s) (hw : σ.w = 1) : σ.L = [] ∧ σ.cr = false ∧ 1 ≤ σ.left ∧ σ.left ≤ 300 ∧ σ.left + 2 ≤ (s.length : Int) := by
  cases h <;> simp only [] at hw <;> try omega
  simp only [List.length_append, List.length_cons]
  exact ⟨by trivial, by trivial, by omega, by omega, by omega⟩
theorem VS.c2 {W s : BL} {σ : CS} (h : VS W σ s) {b : UInt8} {rest : BL} (e : s = b :: rest) (hw : σ.w = 2 ∨ σ.w = 3) (hc : σ.cr = false) : (b.toNat : Int) = 13 ∧ stp σ b = ⟨σ.w, σ.L, true, σ.left, σ.D⟩ := by
  cases h <;> simp only [] at hw hc <;> try (first | (cases hc; done) | omega)
  all_goals
    injection e with e1 e2
    subst e1
    exact ⟨n13, by unfold stp; rw [if_neg (by first | decide | (dsimp only; decide)), n13, if_pos rfl]⟩
theorem VS.c3 {W s : BL} {σ : CS} (h : VS W σ s) {b : UInt8} {rest : BL} (e : s = b :: rest) (hw : σ.w = 2 ∨ σ.w = 3) (hc : σ.cr = true) : (b.toNat : Int) = 10 ∧ σ.L = [] ∧ (σ.w = 2 → stp σ b = ⟨0, [], false, σ.left, σ.D⟩) ∧ (σ.w = 3 → stp σ b = ⟨4, [], false, σ.left, σ.D⟩) := by
  cases h <;> simp only [] at hw hc <;> try (first | (cases hc; done) | omega)
  all_goals
    injection e with e1 e2
    subst e1
    refine ⟨n10, rfl, fun h => ?_, fun h => ?_⟩
    all_goals first
      | (simp at h; done)
      | (unfold stp; rw [if_neg (by first | decide | (dsimp only; decide)), n10, if_neg (by first | decide | (dsimp only; decide)), if_pos rfl, if_neg (by first | decide | (dsimp only; decide)), if_pos rfl]; done)
      | (unfold stp; rw [if_neg (by first | decide | (dsimp only; decide)), n10, if_neg (by first | decide | (dsimp only; decide)), if_pos rfl, if_neg (by first | decide | (dsimp only; decide)), if_neg (by first | decide | (dsimp only; decide))])
section
variable {l : List BL} {i j : Int}
theorem at_ok (h : ok3 l) (h0 : 0 ≤ i) (h1 : i < nA l) : ∃ hi : i.toNat < (ckS l).length, VS l.flatten (stA l i.toNat) ((ckS l).drop i.toNat) ∧ (ckS l).drop i.toNat = (ckS l)[i.toNat] :: (ckS l).drop (i.toNat + 1) ∧ bt (ckS l) i.toNat = (((ckS l)[i.toNat]).toNat : Int) := by
  have hi : i.toNat < (ckS l).length := by unfold nA at h1; omega
  exact ⟨hi, stA_ok h _ (by omega), List.drop_eq_getElem_cons hi, bt_get hi⟩
theorem u8b {b : UInt8} : u8 ((b.toNat : Nat) : Int) = b := by unfold u8; rw [Int.toNat_natCast]; simp
theorem r0 (h : ok3 l) (h0 : 0 ≤ i) (h1 : i < nA l) (hj : j = i + 1) (hw : wA l i = 0) (hc : ¬ cA l i = true) :
    (((48 ≤ bt (ckS l) i.toNat ∧ bt (ckS l) i.toNat ≤ 57) ∨ (97 ≤ bt (ckS l) i.toNat ∧ bt (ckS l) i.toNat ≤ 102)) ∧ Nx l i j 0 (fA l i) (lnA l i ++ [u8 (bt (ckS l) i.toNat)]) (DA l i) false ∧ (lnA l i).length ≤ 2) ∨
    (bt (ckS l) i.toNat = 13 ∧ Nx l i j 0 (fA l i) (lnA l i) (DA l i) true) := by
  obtain ⟨hi, hv, e, hb⟩ := at_ok h h0 h1
  rw [hb, u8b]
  have hc' : cA l i = false := by simpa using hc
  rcases hv.c0 e hw hc' with ⟨a, b, c⟩ | ⟨a, b⟩
  · exact .inl ⟨a, nx_of hj h0 h1 b, c⟩
  · exact .inr ⟨a, nx_of hj h0 h1 b⟩
theorem r0c (h : ok3 l) (h0 : 0 ≤ i) (h1 : i < nA l) (hj : j = i + 1) (hw : wA l i = 0) (hc : cA l i = true) :
    bt (ckS l) i.toNat = 10 ∧ 0 ≤ hexN (lnA l i) ∧ hexN (lnA l i) ≤ 300 ∧ lnA l i = hexS (hexN (lnA l i)) ∧ ((DA l i).length : Int) + hexN (lnA l i) ≤ l.flatten.length ∧
      (hexN (lnA l i) = 0 → Nx l i j 3 (fA l i) [] (DA l i) false) ∧ (¬ hexN (lnA l i) = 0 → Nx l i j 1 (hexN (lnA l i)) [] (DA l i) false) := by
  obtain ⟨hi, hv, e, hb⟩ := at_ok h h0 h1
  obtain ⟨a1, a2, a3, a4, a5, a6, a7⟩ := hv.c0c e hw hc
  rw [hb]
  exact ⟨a1, a2, a3, a4, a5, fun z => nx_of hj h0 h1 (a6 z), fun z => nx_of hj h0 h1 (a7 z)⟩
theorem r2 (h : ok3 l) (h0 : 0 ≤ i) (h1 : i < nA l) (hj : j = i + 1) (hw : wA l i = 2 ∨ wA l i = 3) (hc : ¬ cA l i = true) : bt (ckS l) i.toNat = 13 ∧ Nx l i j (wA l i) (fA l i) (lnA l i) (DA l i) true := by
  obtain ⟨hi, hv, e, hb⟩ := at_ok h h0 h1
  have hc' : cA l i = false := by simpa using hc
  obtain ⟨a, b⟩ := hv.c2 e hw hc'
  rw [hb]; exact ⟨a, nx_of hj h0 h1 b⟩
theorem r3 (h : ok3 l) (h0 : 0 ≤ i) (h1 : i < nA l) (hj : j = i + 1) (hw : wA l i = 2 ∨ wA l i = 3) (hc : cA l i = true) : bt (ckS l) i.toNat = 10 ∧ lnA l i = [] ∧ (wA l i = 2 → Nx l i j 0 (fA l i) [] (DA l i) false) ∧ (wA l i = 3 → Nx l i j 4 (fA l i) [] (DA l i) false) := by
  obtain ⟨hi, hv, e, hb⟩ := at_ok h h0 h1
  obtain ⟨a, b, c, d⟩ := hv.c3 e hw hc
  rw [hb]; exact ⟨a, b, fun z => nx_of hj h0 h1 (c z), fun z => nx_of hj h0 h1 (d z)⟩
theorem r1 (h : ok3 l) (h0 : 0 ≤ i) (h1 : i ≤ nA l) (hw : wA l i = 1) : lnA l i = [] ∧ cA l i = false ∧ 1 ≤ fA l i ∧ fA l i ≤ 300 ∧ i + fA l i + 2 ≤ nA l := by
  have hv := stA_ok h i.toNat (by unfold nA at h1; omega)
  obtain ⟨a, b, c, d, e⟩ := hv.c1 hw
  rw [List.length_drop] at e
  have e' : fA l i + 2 ≤ (((ckS l).length - i.toNat : Nat) : Int) := e
  exact ⟨a, b, c, d, by unfold nA at *; omega⟩
theorem r1m (h : ok3 l) (h0 : 0 ≤ i) (h1 : i ≤ nA l) (hw : wA l i = 1) : ∀ m : Nat, 1 ≤ m → (m : Int) ≤ fA l i → Nx l i (i + m) (if fA l i = m then 2 else 1) (fA l i - m) [] (DA l i ++ ((ckS l).drop i.toNat).take m) false
  | 0, h, _ => absurd h (by decide)
  | m + 1, _, hm => by
    obtain ⟨q1, q2, q3, q4, q5⟩ := r1 h h0 h1 hw
    have one : ∀ {k : Int}, 0 ≤ k → wA l k = 1 → k < nA l → lnA l k = [] → Nx l k (k + 1) (if fA l k = 1 then 2 else 1) (fA l k - 1) [] (DA l k ++ [(ckS l).getD k.toNat 0]) false := fun {k} k0 kw k1 kl => by
      have hi : k.toNat < (ckS l).length := by unfold nA at k1; omega
      have es : stp (stA l k.toNat) ((ckS l)[k.toNat]) = ⟨if fA l k = 1 then 2 else 1, [], false, fA l k - 1, DA l k ++ [(ckS l)[k.toNat]]⟩ := by
        unfold stp; rw [if_pos (show (stA l k.toNat).w = 1 from kw), show (stA l k.toNat).L = [] from kl]; rfl
      have := nx_of (l := l) (j := k + 1) rfl k0 k1 es
      rw [List.getD_eq_getElem?_getD, List.getElem?_eq_getElem hi, Option.getD_some]
      exact this
    by_cases hm0 : m = 0
    · subst hm0
      have := one h0 hw (by omega) q1
      have e : ((ckS l).drop i.toNat).take (0 + 1) = [(ckS l).getD i.toNat 0] := by
        have hi : i.toNat < (ckS l).length := by unfold nA at q5; omega
        rw [List.drop_eq_getElem_cons hi, List.getD_eq_getElem?_getD, List.getElem?_eq_getElem hi, Option.getD_some]; rfl
      rw [e]
      exact this
    · have ih := r1m h h0 h1 hw m (by omega) (by omega)
      have hne : ¬ fA l i = (m : Int) := by omega
      have iw := ih.w; rw [if_neg hne] at iw
      have := one (k := i + m) (by omega) iw (by omega) ih.L
      have hi : (i + (m : Int)).toNat < (ckS l).length := by unfold nA at q5; omega
      have e : ((ckS l).drop i.toNat).take (m + 1) = ((ckS l).drop i.toNat).take m ++ [(ckS l).getD (i + (m : Int)).toNat 0] := by
        have ht : (i + (m : Int)).toNat = i.toNat + m := by omega
        rw [List.take_add_one, List.getElem?_drop, ht, List.getD_eq_getElem?_getD]
        rw [ht] at hi
        rw [List.getElem?_eq_getElem hi, Option.getD_some, Option.toList_some]
      rw [e]
      have ec : (((m + 1 : Nat)) : Int) = (m : Int) + 1 := by omega
      have hj : i + (((m + 1 : Nat)) : Int) = i + (m : Int) + 1 := by omega
      rw [hj, ec]
      refine ⟨?_, ?_, this.L, ?_, this.c⟩
      · rw [this.w, ih.f]; by_cases z : fA l i = (m : Int) + 1
        · rw [if_pos (by omega), if_pos z]
        · rw [if_neg (by omega), if_neg z]
      · rw [this.f, ih.f]; omega
      · rw [this.D, ih.D, List.append_assoc]
end
/-- a piece of the stream from t on -/
def xP (x : BL) (l : List BL) (mo : BL) (t : Int) : Prop := ∃ y, x ++ y = (ckS l ++ mo).drop t.toNat
theorem bt_drop {s : BL} {i j : Nat} : bt (s.drop i) j = bt s (i + j) := by
  unfold bt; rw [List.getD_eq_getElem?_getD, List.getElem?_drop, List.getD_eq_getElem?_getD]
theorem pc {x mo : BL} {l : List BL} {t n : Int} (h : xP x l mo t) (h0 : 0 ≤ t) (h1 : 0 ≤ n) (h2 : n < (x.length : Int)) (h3 : t + n < nA l) : bt x n.toNat = bt (ckS l) (t + n).toNat := by
  obtain ⟨y, e⟩ := h
  have a : bt (x ++ y) n.toNat = bt x n.toNat := bt_apL (by omega)
  rw [← a, e, bt_drop, show t.toNat + n.toNat = (t + n).toNat by omega]
  exact bt_apL (by unfold nA at h3; omega)
theorem pd {x mo : BL} {l : List BL} {t n m : Int} (h : xP x l mo t) (h0 : 0 ≤ t) (h1 : 0 ≤ n) (h2 : 0 ≤ m) (h3 : n + m ≤ (x.length : Int)) (h4 : t + n + m ≤ nA l) : (x.drop n.toNat).take m.toNat = ((ckS l).drop (t + n).toNat).take m.toNat := by
  obtain ⟨y, e⟩ := h
  have e1 : (x ++ y).drop n.toNat = x.drop n.toNat ++ y := by rw [List.drop_append_of_le_length (by omega)]
  have e2 : ((ckS l ++ mo).drop t.toNat).drop n.toNat = (ckS l).drop (t + n).toNat ++ mo := by
    rw [List.drop_drop, show t.toNat + n.toNat = (t + n).toNat by omega, List.drop_append_of_le_length (by unfold nA at h4; omega)]
  rw [e, e2] at e1
  have e3 := congrArg (List.take m.toNat) e1
  rw [List.take_append_of_le_length (by rw [List.length_drop]; unfold nA at h4; omega), List.take_append_of_le_length (by rw [List.length_drop]; omega)] at e3
  exact e3.symm
theorem z0 {l : List BL} : wA l 0 = 0 ∧ lnA l 0 = [] ∧ cA l 0 = false ∧ fA l 0 = 0 ∧ DA l 0 = [] := ⟨rfl, rfl, rfl, rfl, rfl⟩
end Go.AX
namespace Go.AX
section
variable {l : List BL} {i j : Int}
theorem rf (h : ok3 l) (h0 : 0 ≤ i) (h1 : i ≤ nA l) (hj : j = i + 1) (hw1 : ¬ wA l i = 1) (hw4 : ¬ wA l i = 4) (hc : ¬ cA l i = true) :
    i < nA l ∧ ((bt (ckS l) i.toNat = 13 ∧ Nx l i j (wA l i) (fA l i) (lnA l i) (DA l i) true) ∨
    (wA l i = 0 ∧ ((48 ≤ bt (ckS l) i.toNat ∧ bt (ckS l) i.toNat ≤ 57) ∨ (97 ≤ bt (ckS l) i.toNat ∧ bt (ckS l) i.toNat ≤ 102)) ∧ Nx l i j 0 (fA l i) (lnA l i ++ [u8 (bt (ckS l) i.toNat)]) (DA l i) false ∧ (lnA l i).length ≤ 2)) := by
  obtain ⟨y1, y2, y3, y4, y5, y6, y7, y8⟩ := any_ h h0 h1
  have hlt : i < nA l := by
    rcases Int.lt_or_le i (nA l) with q | q
    · exact q
    · exact absurd (y1.2 (by omega)) hw4
  refine ⟨hlt, ?_⟩
  rcases (by omega : wA l i = 0 ∨ wA l i = 2 ∨ wA l i = 3) with q | q
  · rcases r0 h h0 hlt hj q hc with ⟨a, b, c⟩ | ⟨a, b⟩
    · exact .inr ⟨q, a, b, c⟩
    · exact .inl ⟨a, by rw [q]; exact b⟩
  · exact .inl (r2 h h0 hlt hj q hc)
theorem rt (h : ok3 l) (h0 : 0 ≤ i) (h1 : i ≤ nA l) (hj : j = i + 1) (hc : cA l i = true) :
    i < nA l ∧ bt (ckS l) i.toNat = 10 ∧ ¬ wA l i = 1 ∧ ¬ wA l i = 4 ∧
    (wA l i = 0 → 0 ≤ hexN (lnA l i) ∧ hexN (lnA l i) ≤ 300 ∧ lnA l i = hexS (hexN (lnA l i)) ∧ ((DA l i).length : Int) + hexN (lnA l i) ≤ l.flatten.length ∧
      (hexN (lnA l i) = 0 → Nx l i j 3 (fA l i) [] (DA l i) false) ∧ (¬ hexN (lnA l i) = 0 → Nx l i j 1 (hexN (lnA l i)) [] (DA l i) false)) ∧
    (wA l i = 2 → Nx l i j 0 (fA l i) [] (DA l i) false) ∧ (wA l i = 3 → (lnA l i).length = 0 ∧ Nx l i j 4 (fA l i) [] (DA l i) false) := by
  obtain ⟨y1, y2, y3, y4, y5, y6, y7, y8⟩ := any_ h h0 h1
  have hw4 : ¬ wA l i = 4 := fun q => by have := (y2 q).2; rw [hc] at this; cases this
  have hw1 : ¬ wA l i = 1 := fun q => by have := y7 q; rw [hc] at this; cases this
  have hlt : i < nA l := by
    rcases Int.lt_or_le i (nA l) with q | q
    · exact q
    · exact absurd (y1.2 (by omega)) hw4
  rcases (by omega : wA l i = 0 ∨ wA l i = 2 ∨ wA l i = 3) with q | q
  · obtain ⟨a, b⟩ := r0c h h0 hlt hj q hc
    exact ⟨hlt, a, hw1, hw4, fun _ => b, fun e => by omega, fun e => by omega⟩
  · obtain ⟨a, b, c, d⟩ := r3 h h0 hlt hj q hc
    exact ⟨hlt, a, hw1, hw4, fun e => by omega, c, fun e => ⟨by rw [b]; rfl, d e⟩⟩
end
/-- a piece of the stream -/
def xS (l : List BL) (mo : BL) (t u : Int) : BL := ((ckS l ++ mo).drop t.toNat).take (u - t).toNat
theorem xS_P {l : List BL} {mo : BL} {t u : Int} : xP (xS l mo t u) l mo t := ⟨_, List.take_append_drop _ _⟩
theorem xS_len {l : List BL} {mo : BL} {t u : Int} (h0 : 0 ≤ t) (h1 : t ≤ u) (h2 : u ≤ nA l + mo.length) : ((xS l mo t u).length : Int) = u - t := by
  unfold xS nA at *
  rw [List.length_take, List.length_drop, List.length_append]; omega
theorem nA_lo {l : List BL} : 5 ≤ nA l := by
  have h3 := hexS_len (n := ((hdC l).length : Int))
  unfold nA; rw [ck_hd]
  simp only [List.length_append, List.length_cons]
  unfold aft; split
  · simp only [List.length_cons, List.length_nil]; omega
  · rename_i h
    simp only [List.length_append, List.length_cons]; omega
def eA (l : List BL) (x : BL) (t : Int) : Int := min (x.length : Int) (nA l - t)
theorem idx_hex {n : Int} (h0 : 0 ≤ n) (h : n ≤ 300) : ∀ b, b ∈ hexS n → ¬ (b.toNat : Int) = 59 := fun b hb => by
  obtain ⟨j, hj, e⟩ := List.getElem_of_mem hb
  have := hexS_bt h0 h hj
  rw [bt_get hj, e] at this
  omega
end Go.AX
namespace Go.AX
theorem ix_no : ∀ l : List UInt8, (∀ b, b ∈ l → ¬ (b.toNat : Int) = 59) → idxB l 59 = -1
  | [], _ => rfl
  | b :: l, h => by
    have ih := ix_no l fun q hq => h q (List.mem_cons_of_mem _ hq)
    have hb := h b (List.mem_cons_self ..)
    unfold idxB at ih ⊢
    unfold Lib.indexByte
    have hne : (b == u8 59) = false := by
      rw [beq_eq_false_iff_ne]
      rintro rfl
      exact hb (by decide)
    rw [hne, ih]; rfl
theorem ix_hex {L : BL} {n : Int} (e : L = hexS n) (h0 : 0 ≤ n) (h : n ≤ 300) : idxB L 59 = -1 := by rw [e]; exact ix_no _ (idx_hex h0 h)
theorem ix_ne {L : BL} {n : Int} (e : L = hexS n) (h0 : 0 ≤ n) (h : n ≤ 300) : ¬ [u8 59] = L := fun q => idx_hex h0 h (u8 59) (by rw [← e, ← q]; exact List.mem_cons_self ..) (by decide)
theorem stp_D (σ : CS) (b : UInt8) : σ.D.length ≤ (stp σ b).D.length := by
  unfold stp
  repeat' split
  all_goals simp
theorem D_mono {l : List BL} {i : Int} (h0 : 0 ≤ i) : ∀ d : Nat, i + d ≤ nA l → (DA l i).length ≤ (DA l (i + d)).length
  | 0, _ => by rw [show i + ((0 : Nat) : Int) = i by omega]; exact Nat.le_refl _
  | d + 1, h => by
    have ih := D_mono (l := l) h0 d (by omega)
    have hi : (i + (d : Int)).toNat < (ckS l).length := by unfold nA at h; omega
    have e : (i + ((d + 1 : Nat) : Int)).toNat = (i + (d : Int)).toNat + 1 := by omega
    unfold DA at ih ⊢
    rw [e, stA_succ hi]
    exact Nat.le_trans ih (stp_D _ _)
def uA (l : List BL) (mo : BL) (t k : Int) : Int := min (nA l + mo.length) (t + k)
/-- how much of the next piece is taken -/
def eE (l : List BL) (mo : BL) (t k : Int) : Int := eA l (xS l mo t (uA l mo t k)) t
def pE (l : List BL) (mo : BL) (t k : Int) : Int := t + eE l mo t k
theorem D_mono' {l : List BL} {i j : Int} (h0 : 0 ≤ i) (h1 : i ≤ j) (h2 : j ≤ nA l) : (DA l i).length ≤ (DA l j).length := by
  have := D_mono (l := l) h0 (j - i).toNat (by omega)
  rw [show i + (((j - i).toNat : Nat) : Int) = j by omega] at this; exact this
theorem bt0 {l : List BL} (h : ok3 l) {i : Int} (hi : i = 0) : ¬ bt (ckS l) i.toNat = 13 := by
  have g := hd_le l h
  have h3 := hexS_len (n := ((hdC l).length : Int))
  have hb := hexS_bt (n := ((hdC l).length : Int)) (by omega) (by omega) (j := 0) (by omega)
  rw [hi, ck_hd]
  show ¬ bt _ 0 = 13
  rw [bt_apL (by omega)]
  omega
/-- all that a round wants to know -/
theorem rndC {l : List BL} {mo : BL} {t k : Int} (h : ok3 l) (h0 : 0 ≤ t) (h1 : t ≤ nA l) (hk : 1 ≤ k) (h2 : t < nA l + mo.length) :
    uA l mo t k = min (nA l + (mo.length : Int)) (t + k) ∧ ((xS l mo t (uA l mo t k)).length : Int) = uA l mo t k - t ∧ eE l mo t k = min (((xS l mo t (uA l mo t k)).length : Nat) : Int) (nA l - t) ∧ (t + eE l mo t k) = t + eE l mo t k ∧
    (wA l ((t + eE l mo t k)) = 4 ↔ (t + eE l mo t k) = nA l) ∧ (wA l ((t + eE l mo t k)) = 4 → DA l ((t + eE l mo t k)) = l.flatten ∧ cA l ((t + eE l mo t k)) = false) ∧ (lnA l ((t + eE l mo t k))).length ≤ 3 ∧ (DA l ((t + eE l mo t k))).length ≤ l.flatten.length ∧ (DA l t).length ≤ (DA l ((t + eE l mo t k))).length ∧ t + (0 : Int) = t := by
  have e1 : uA l mo t k = min (nA l + (mo.length : Int)) (t + k) := rfl
  have e2 := xS_len (l := l) (mo := mo) (t := t) (u := uA l mo t k) h0 (by omega) (by omega)
  have e3 : eE l mo t k = min (((xS l mo t (uA l mo t k)).length : Nat) : Int) (nA l - t) := rfl
  have e4 : (t + eE l mo t k) = t + eE l mo t k := rfl
  obtain ⟨z1, z2, z3, z4, z5, z6, z7, z8⟩ := any_ (l := l) (i := (t + eE l mo t k)) h (by omega) (by omega)
  exact ⟨e1, e2, e3, e4, z1, z2, z5, z6, D_mono' h0 (by omega) (by omega), by omega⟩
theorem brk {l : List BL} {mo : BL} {t k : Int} (h : ok3 l) (h0 : 0 ≤ t) (h1 : t ≤ nA l) (hk : 1 ≤ k) (h2 : t < nA l + mo.length) (hb : eE l mo t k < uA l mo t k - t) : wA l ((t + eE l mo t k)) = 4 ∧ DA l ((t + eE l mo t k)) = l.flatten ∧ (t + eE l mo t k) = nA l := by
  obtain ⟨e1, e2, e3, e4, z1, z2, z5, z6, z7, z8⟩ := rndC (mo := mo) h h0 h1 hk h2
  have hw := z1.2 (by omega)
  exact ⟨hw, (z2 hw).1, by omega⟩
theorem k1 {l : List BL} {i : Int} (h : ok3 l) (h0 : 0 ≤ i) (h1 : i ≤ nA l) (hc : cA l i = true) : ¬ cA l (i + 1) = true ∧ (DA l (i + 1)).length = (DA l i).length := by
  obtain ⟨a1, a2, a3, a4, a5, a6, a7⟩ := rt (l := l) (i := i) (j := i + 1) h h0 h1 rfl hc
  obtain ⟨y1, y2, y3, y4, y5, y6, y7, y8⟩ := any_ (l := l) (i := i) h h0 h1
  have fin : ∀ {w f : Int} {L : BL}, Nx l i (i + 1) w f L (DA l i) false → ¬ cA l (i + 1) = true ∧ (DA l (i + 1)).length = (DA l i).length := fun q => ⟨by rw [q.c]; decide, by rw [q.D]⟩
  rcases (by omega : wA l i = 0 ∨ wA l i = 2 ∨ wA l i = 3) with q | q | q
  · obtain ⟨b1, b2, b3, b4, b5, b6⟩ := a5 q
    by_cases z : hexN (lnA l i) = 0
    · exact fin (b5 z)
    · exact fin (b6 z)
  · exact fin (a6 q)
  · exact fin (a7 q).2
theorem k0 {l : List BL} {i : Int} (h : ok3 l) (hi : i = 0) : ¬ cA l (i + 1) = true ∧ (DA l (i + 1)).length = 0 := by
  have hN := nA_lo (l := l)
  have z := z0 (l := l)
  subst hi
  obtain ⟨a, b⟩ := rf (l := l) (i := 0) (j := 0 + 1) h (by omega) (by omega) rfl (by rw [z.1]; decide) (by rw [z.1]; decide) (by rw [z.2.2.1]; decide)
  obtain ⟨c, d, q, e⟩ := b.resolve_left (fun y => bt0 h rfl y.1)
  exact ⟨by rw [q.c]; decide, by rw [q.D, z.2.2.2.2]; rfl⟩
theorem kT {l : List BL} {mo : BL} {t : Int} (h : ok3 l) (h0 : 0 ≤ t) (h1 : t ≤ nA l) (h2 : t < nA l + mo.length) (hc : ¬ cA l t = true) (hp : cA l ((t + eE l mo t 1)) = true) : (DA l ((t + eE l mo t 1))).length = (DA l t).length := by
  obtain ⟨e1, e2, e3, e4, z1, z2, z5, z6, z7, z8⟩ := rndC (mo := mo) h h0 h1 (by omega : (1 : Int) ≤ 1) h2
  rcases (by omega : (t + eE l mo t 1) = t ∨ (t < nA l ∧ (t + eE l mo t 1) = t + 1)) with q | ⟨q0, q⟩
  · rw [q]
  · rw [q] at hp ⊢
    obtain ⟨y1, y2, y3, y4, y5, y6, y7, y8⟩ := any_ (l := l) (i := t) h h0 h1
    by_cases w1 : wA l t = 1
    · obtain ⟨u1, u2, u3, u4, u5⟩ := r1 h h0 h1 w1
      have := (r1m h h0 h1 w1 1 (by omega) (by omega)).c
      rw [show t + ((1 : Nat) : Int) = t + 1 by omega, hp] at this
      cases this
    · obtain ⟨a, b⟩ := rf (l := l) (i := t) (j := t + 1) h h0 h1 rfl w1 (by omega) hc
      rcases b with ⟨_, b⟩ | ⟨_, _, b, _⟩
      · rw [b.D]
      · rw [b.D]
end Go.AX
