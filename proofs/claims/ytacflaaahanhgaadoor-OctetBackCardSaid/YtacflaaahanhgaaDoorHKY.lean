/- A part of the proof: an interpreter of the model's own code on partly known states, and that what it answers is what the program answers. No condition of its own. -/
import Derived.Test.YtacflaaahanhgaaDoorHXpart4
set_option linter.unusedSimpArgs false
set_option linter.unusedVariables false
namespace Go.AX
/-- a row of choices, as the bits of a number -/
def tabBF : List AV → Nat → Bool
  | [], _ => true
  | a :: r, M => (match a with | .b x => (x == Nat.beq (Nat.mod M 2) 1) | _ => false) && tabBF r (Nat.div M 2)
theorem tabBF_get : ∀ (l : List AV) (M : Nat), tabBF l M = true → ∀ j, j < l.length → l[j]? = some (.b (M.testBit j))
  | [], M, _, j, hj => by simp at hj
  | a :: r, M, h, j, hj => by
    simp only [tabBF, Bool.and_eq_true] at h
    cases j with
    | zero =>
      have h1 := h.1
      split at h1
      · rw [beq_iff_eq] at h1
        subst h1
        simp only [List.getElem?_cons_zero, Option.some.injEq, AV.b.injEq]
        rw [Nat.testBit_zero]
        show Nat.beq (M % 2) 1 = _
        rw [Bool.eq_iff_iff, Nat.beq_eq, decide_eq_true_eq]
      · cases h1
    | succ j =>
      have := tabBF_get r _ h.2 j (by simpa using hj)
      rw [List.getElem?_cons_succ, this, Nat.testBit_succ]; rfl
theorem kTabB {C : Cx} {x : AV} {c : Int} {q : IntKind} (M : Nat) {l : List AV} {v : Bool} (hall : (tabBF l M && Nat.beq l.length 256) = true) (hx : Is C x (.int q c)) (b0 : 0 ≤ c) (b1 : c ≤ 255) (h : tb8 M c = v) : HOk C (.tab l x) (.b v) := by
  intro ρ vx hr
  have e := hx ρ vx hr
  subst e
  rw [Bool.and_eq_true] at hall
  have hl : l.length = 256 := Nat.eq_of_beq_eq_true hall.2
  obtain ⟨n, rfl⟩ := Int.eq_ofNat_of_zero_le b0
  refine ⟨q, n, .b (M.testBit n), rfl, tabBF_get _ _ hall.1 n (by omega), fun ρ' w hw => ?_⟩
  simp only [Rel] at hw ⊢
  subst h
  exact hw
theorem tbF {M : Nat} {c : Int} (h : ¬ (tb8 M c = true)) : tb8 M c = false := by simpa using h
end Go.AX
namespace Go.AX
theorem dropE {l : List UInt8} {P : Int} : List.drop (Int.toNat P) l = (l.drop P.toNat).take ((l.length : Int) - P).toNat := by
  rw [List.take_of_length_le]; rw [List.length_drop]; omega
theorem takeE {l : List UInt8} {Q : Int} : List.take (Int.toNat Q) l = (l.drop (0 : Int).toNat).take (Q - 0).toNat := by
  rw [show Q - 0 = Q by omega]; rfl
theorem lenDrop {l : List UInt8} {P : Int} (h0 : 0 ≤ P) (h : P ≤ (l.length : Int)) : ((List.drop (Int.toNat P) l).length : Int) = (l.length : Int) - P := by rw [List.length_drop]; omega
theorem lenTake {l : List UInt8} {Q : Int} (h0 : 0 ≤ Q) (h : Q ≤ (l.length : Int)) : ((List.take (Int.toNat Q) l).length : Int) = Q := by rw [List.length_take]; omega
end Go.AX
namespace Go.AX
theorem mid2 {l : List UInt8} {P Q : Int} {i : Nat} (hP : P = (i : Int)) (hQ : Q = P + 2) (h : i + 2 ≤ l.length) : [u8 (bt l i), u8 (bt l (i + 1))] = (l.drop P.toNat).take (Q - P).toNat := by
  subst hQ
  rw [show (P + 2 - P).toNat = 2 by omega, show P.toNat = i by omega]
  rw [List.drop_eq_getElem_cons (by omega), List.drop_eq_getElem_cons (by omega)]
  simp only [List.take_succ_cons, List.take_zero]
  rw [u8_bt, u8_bt, List.getD_eq_getElem?_getD, List.getElem?_eq_getElem (by omega), List.getD_eq_getElem?_getD, List.getElem?_eq_getElem (by omega)]; rfl
end Go.AX
