/- A part of the proof: an interpreter of the model's own code on partly known states, and that what it answers is what the program answers. No condition of its own. -/
import Derived.Test.YtojgdbbjblaalaaDoorAX
set_option linter.unusedSimpArgs false
namespace Go.AX
theorem get_setF {α} : ∀ (f : Nat) (t : T α) (n m : Nat) (x : Option α), n + 1 < 2 ^ f → (T.setF f t n x).get m = if m = n then x else t.get m := by
  intro f
  induction f with
  | zero => intro t n m x h; simp at h
  | succ f ih =>
    intro t n m x h
    have hp : 2 ^ (f + 1) = 2 * 2 ^ f := by rw [Nat.pow_succ]; omega
    have e2 : ∀ k : Nat, Nat.mod k 2 = k % 2 := fun _ => rfl
    have e3 : ∀ k : Nat, Nat.div k 2 = k / 2 := fun _ => rfl
    have e4 : ∀ k : Nat, Nat.sub k 1 = k - 1 := fun _ => rfl
    cases t with
    | leaf =>
      rw [T.setF_leaf]
      cases h0 : Nat.beq n 0 with
      | true =>
        have : n = 0 := by simpa using h0
        subst this
        simp only [cond_true, T.get_leaf, T.get_node, e2, e3, e4]
        cases hm : Nat.beq m 0 with
        | true => have : m = 0 := by simpa using hm
                  simp [this]
        | false => have : m ≠ 0 := by intro e; subst e; simp at hm
                   simp only [cond_false, this, if_false]; cases Nat.beq (m % 2) 1 <;> rfl
      | false =>
        have hn : n ≠ 0 := by intro e; subst e; simp at h0
        simp only [cond_false, e2, e3, e4]
        cases h1 : Nat.beq (n % 2) 1 with
        | true =>
          have h1' : n % 2 = 1 := by simpa using h1
          simp only [cond_true, T.get_leaf, T.get_node, e2, e3, e4]
          cases hm : Nat.beq m 0 with
          | true => have : m = 0 := by simpa using hm
                    subst this; simp [Ne.symm hn]
          | false =>
            have hm' : m ≠ 0 := by intro e; subst e; simp at hm
            simp only [cond_false]
            cases hm1 : Nat.beq (m % 2) 1 with
            | true =>
              have hm1' : m % 2 = 1 := by simpa using hm1
              simp only [cond_true]
              rw [ih _ _ _ _ (by omega)]
              simp only [T.get_leaf, T.get_node]
              by_cases e : m = n
              · subst e; simp
              · rw [if_neg e, if_neg (by omega)]
            | false =>
              have hm1' : m % 2 ≠ 1 := by intro e; rw [e] at hm1; simp at hm1
              simp only [cond_false]
              rw [if_neg (by intro e; subst e; omega)]
        | false =>
          have h1' : n % 2 ≠ 1 := by intro e; rw [e] at h1; simp at h1
          simp only [cond_false, T.get_leaf, T.get_node, e2, e3, e4]
          cases hm : Nat.beq m 0 with
          | true => have : m = 0 := by simpa using hm
                    subst this; simp [Ne.symm hn]
          | false =>
            have hm' : m ≠ 0 := by intro e; subst e; simp at hm
            simp only [cond_false]
            cases hm1 : Nat.beq (m % 2) 1 with
            | true =>
              have hm1' : m % 2 = 1 := by simpa using hm1
              simp only [cond_true]
              rw [if_neg (by intro e; subst e; omega)]
            | false =>
              have hm1' : m % 2 ≠ 1 := by intro e; rw [e] at hm1; simp at hm1
              simp only [cond_false]
              rw [ih _ _ _ _ (by omega)]
              simp only [T.get_leaf, T.get_node]
              by_cases e : m = n
              · subst e; simp
              · rw [if_neg e, if_neg (by omega)]
    | node v l r =>
      rw [T.setF_node]
      cases h0 : Nat.beq n 0 with
      | true =>
        have : n = 0 := by simpa using h0
        subst this
        simp only [cond_true, T.get_leaf, T.get_node, e2, e3, e4]
        cases hm : Nat.beq m 0 with
        | true => have : m = 0 := by simpa using hm
                  simp [this]
        | false => have : m ≠ 0 := by intro e; subst e; simp at hm
                   simp only [cond_false, this, if_false]
      | false =>
        have hn : n ≠ 0 := by intro e; subst e; simp at h0
        simp only [cond_false, e2, e3, e4]
        cases h1 : Nat.beq (n % 2) 1 with
        | true =>
          have h1' : n % 2 = 1 := by simpa using h1
          simp only [cond_true, T.get_leaf, T.get_node, e2, e3, e4]
          cases hm : Nat.beq m 0 with
          | true => have : m = 0 := by simpa using hm
                    subst this; simp [Ne.symm hn]
          | false =>
            have hm' : m ≠ 0 := by intro e; subst e; simp at hm
            simp only [cond_false]
            cases hm1 : Nat.beq (m % 2) 1 with
            | true =>
              have hm1' : m % 2 = 1 := by simpa using hm1
              simp only [cond_true]
              rw [ih _ _ _ _ (by omega)]
              by_cases e : m = n
              · subst e; simp
              · rw [if_neg e, if_neg (by omega)]
            | false =>
              have hm1' : m % 2 ≠ 1 := by intro e; rw [e] at hm1; simp at hm1
              simp only [cond_false]
              rw [if_neg (by intro e; subst e; omega)]
        | false =>
          have h1' : n % 2 ≠ 1 := by intro e; rw [e] at h1; simp at h1
          simp only [cond_false, T.get_leaf, T.get_node, e2, e3, e4]
          cases hm : Nat.beq m 0 with
          | true => have : m = 0 := by simpa using hm
                    subst this; simp [Ne.symm hn]
          | false =>
            have hm' : m ≠ 0 := by intro e; subst e; simp at hm
            simp only [cond_false]
            cases hm1 : Nat.beq (m % 2) 1 with
            | true =>
              have hm1' : m % 2 = 1 := by simpa using hm1
              simp only [cond_true]
              rw [if_neg (by intro e; subst e; omega)]
            | false =>
              have hm1' : m % 2 ≠ 1 := by intro e; rw [e] at hm1; simp at hm1
              simp only [cond_false]
              rw [ih _ _ _ _ (by omega)]
              by_cases e : m = n
              · subst e; simp
              · rw [if_neg e, if_neg (by omega)]
theorem get_set {α} (t : T α) (n m : Nat) (x : α) (h : n ≤ 16777213) : (t.set n x).get m = if m = n then some x else t.get m := get_setF 24 t n m _ (by omega)
theorem get_del {α} (t : T α) (n m : Nat) (h : n ≤ 16777213) : (t.del n).get m = if m = n then none else t.get m := get_setF 24 t n m _ (by omega)

theorem ile_iff (a b : Int) : ile a b = decide (a ≤ b) := by
  cases a <;> cases b <;> simp only [ile] <;> rw [Bool.eq_iff_iff] <;> simp [Nat.ble_eq] <;> omega
theorem ilt_iff (a b : Int) : ilt a b = decide (a < b) := by
  unfold ilt; rw [ile_iff, Bool.eq_iff_iff]; simp
theorem ieq_iff (a b : Int) : ieq a b = decide (a = b) := by
  cases a <;> cases b <;> simp only [ieq] <;> apply Bool.eq_iff_iff.2 <;> simp <;> omega
theorem kEq_eq {k l : IntKind} (h : kEq k l = true) : k = l := by
  cases k <;> cases l <;> first | rfl | cases h
theorem wrap_of (k : IntKind) (n : Int) (h : if k.signed then -(2 ^ (k.bits - 1) : Int) ≤ n ∧ n < 2 ^ (k.bits - 1) else 0 ≤ n ∧ n < 2 ^ k.bits) : k.wrap n = n := by
  cases k <;> simp only [IntKind.signed, IntKind.bits, if_true, if_false, Bool.false_eq_true, Nat.reduceSub] at h <;> simp only [IntKind.wrap, IntKind.bits, IntKind.signed, Bool.true_and, Bool.false_and, Bool.false_eq_true, if_false, Nat.reduceSub, decide_eq_true_eq, ge_iff_le] <;> (try split) <;> omega
theorem fits_range (k : IntKind) (n : Int) (h : fits k n = true) : if k.signed then -(2 ^ (k.bits - 1) : Int) ≤ n ∧ n < 2 ^ (k.bits - 1) else 0 ≤ n ∧ n < 2 ^ k.bits := by
  cases k <;> cases n <;> first | (cases h; done) | (have h' := Nat.le_of_ble_eq_true h; simp only [IntKind.signed, IntKind.bits, if_true, if_false, Bool.false_eq_true, Nat.reduceSub, Int.ofNat_eq_natCast]; omega)
theorem fits_wrap (k : IntKind) (n : Int) (h : fits k n = true) : k.wrap n = n := wrap_of k n (fits_range k n h)
theorem wrp_eq (k : IntKind) (n : Int) : wrp k n = k.wrap n := by
  unfold wrp; cases h : fits k n with
  | true => simp [fits_wrap k n h]
  | false => rfl
theorem tn_eq (k : IntKind) (x : Int) : tn k x = (x % (2 ^ k.bits : Int)).toNat := by
  unfold tn; split
  · rename_i n
    cases h : fits k (.ofNat n) with
    | true =>
      have hr := fits_range k _ h
      have : (n : Int) < (2 : Int) ^ k.bits := by
        cases k <;> simp only [IntKind.signed, IntKind.bits, if_true, if_false, Bool.false_eq_true, Nat.reduceSub, Int.ofNat_eq_natCast] at hr ⊢ <;> omega
      simp only [cond_true]
      show n = ((n : Int) % (2 : Int) ^ k.bits).toNat
      rw [Int.emod_eq_of_lt (by omega) this, Int.toNat_natCast]
    | false => rfl
  · rfl
theorem toNat_ofInt (k : IntKind) (x : Int) : (BitVec.ofInt k.bits x).toNat = tn k x := by
  rw [tn_eq]; simp [BitVec.toNat_ofInt]
end Go.AX
