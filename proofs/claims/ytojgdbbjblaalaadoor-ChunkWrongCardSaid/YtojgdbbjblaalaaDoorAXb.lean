/- A part of the proof: an interpreter of the model's own code on partly known states, and that what it answers is what the program answers. No condition of its own. -/
import Derived.Test.YtojgdbbjblaalaaDoorAXa
set_option linter.unusedSimpArgs false
namespace Go.AX
def strB (len n : Nat) : List UInt8 := (List.range len).map fun j => UInt8.ofNat (byteAt n j)
theorem byteAt_eq (n j : Nat) : byteAt n j = n / 2 ^ (8 * j) % 256 := by
  show (n >>> (8 * j)) % 256 = _
  rw [Nat.shiftRight_eq_div_pow]
theorem byteAt_lt (n j : Nat) : byteAt n j < 256 := by rw [byteAt_eq]; omega
theorem low_eq (n len : Nat) : low n len = n % 2 ^ (8 * len) := by
  show n % (1 <<< (8 * len)) = _
  rw [Nat.one_shiftLeft]
theorem low_lt (n len : Nat) : low n len < 2 ^ (8 * len) := by rw [low_eq]; exact Nat.mod_lt _ (Nat.two_pow_pos _)
theorem byteAt_add (a c k j : Nat) (h : a < 2 ^ (8 * k)) : byteAt (a + c * 2 ^ (8 * k)) j = if j < k then byteAt a j else byteAt c (j - k) := by
  simp only [byteAt_eq]
  split
  · rename_i hj
    have e : 2 ^ (8 * k) = 2 ^ (8 * j) * (256 * 2 ^ (8 * (k - j - 1))) := by
      rw [show (256 : Nat) = 2 ^ 8 from rfl, ← Nat.pow_add, ← Nat.pow_add]; congr 1; omega
    rw [e, show a + c * (2 ^ (8 * j) * (256 * 2 ^ (8 * (k - j - 1)))) = a + 2 ^ (8 * j) * (256 * (c * 2 ^ (8 * (k - j - 1)))) by
      rw [← Nat.mul_assoc, Nat.mul_comm c, Nat.mul_assoc, Nat.mul_left_comm c], Nat.add_mul_div_left _ _ (Nat.two_pow_pos _), Nat.add_mul_mod_self_left]
  · rename_i hj
    have e : 2 ^ (8 * j) = 2 ^ (8 * k) * 2 ^ (8 * (j - k)) := by rw [← Nat.pow_add]; congr 1; omega
    rw [e, ← Nat.div_div_eq_div_mul, Nat.add_mul_div_right _ _ (Nat.two_pow_pos _), Nat.div_eq_of_lt h, Nat.zero_add]
theorem byteAt_shr (n off j : Nat) : byteAt (n >>> (8 * off)) j = byteAt n (off + j) := by
  simp only [byteAt_eq, Nat.shiftRight_eq_div_pow]
  rw [Nat.div_div_eq_div_mul, ← Nat.pow_add]; congr 3; omega
theorem byteAt_low (n len j : Nat) (h : j < len) : byteAt (low n len) j = byteAt n j := by
  have h2 := byteAt_add (n % 2 ^ (8 * len)) (n / 2 ^ (8 * len)) len j (Nat.mod_lt _ (Nat.two_pow_pos _))
  rw [if_pos h, Nat.mul_comm (n / 2 ^ (8 * len)), Nat.mod_add_div] at h2
  rw [low_eq, h2]
theorem byteAt_high (n len j : Nat) (h : n < 2 ^ (8 * len)) (hj : len ≤ j) : byteAt n j = 0 := by
  rw [byteAt_eq, Nat.div_eq_of_lt (Nat.lt_of_lt_of_le h (Nat.pow_le_pow_right (by omega) (by omega)))]
theorem byteAt_ext : ∀ (len n m : Nat), n < 2 ^ (8 * len) → m < 2 ^ (8 * len) → (∀ j, j < len → byteAt n j = byteAt m j) → n = m
  | 0, n, m, hn, hm, _ => by simp at hn hm; omega
  | len + 1, n, m, hn, hm, h => by
    have e : 2 ^ (8 * (len + 1)) = 256 * 2 ^ (8 * len) := by rw [show (256 : Nat) = 2 ^ 8 from rfl, ← Nat.pow_add]; congr 1; omega
    rw [e] at hn hm
    have h0 := h 0 (by omega)
    simp only [byteAt_eq, Nat.mul_zero, Nat.pow_zero, Nat.div_one] at h0
    have := byteAt_ext len (n / 256) (m / 256) (Nat.div_lt_of_lt_mul hn) (Nat.div_lt_of_lt_mul hm) (fun j hj => by
      have hh := h (j + 1) (by omega)
      have s1 := byteAt_shr n 1 j
      have s2 := byteAt_shr m 1 j
      rw [Nat.add_comm 1 j] at s1 s2
      rw [Nat.shiftRight_eq_div_pow] at s1 s2
      rw [show 2 ^ (8 * 1) = 256 from rfl] at s1 s2
      rw [s1, s2, hh])
    omega
theorem strB_length (len n : Nat) : (strB len n).length = len := by simp [strB]
theorem strB_get (len n j : Nat) (h : j < len) : (strB len n)[j]? = some (UInt8.ofNat (byteAt n j)) := by
  simp [strB, h]
theorem ofNat_toNat (n : Nat) (h : n < 256) : (UInt8.ofNat n).toNat = n := by
  simp [UInt8.toNat_ofNat', Nat.mod_eq_of_lt h]
theorem strB_inj (len n m : Nat) (hn : n < 2 ^ (8 * len)) (hm : m < 2 ^ (8 * len)) (h : strB len n = strB len m) : n = m := by
  refine byteAt_ext len n m hn hm fun j hj => ?_
  have := congrArg (fun l => (l[j]?).map UInt8.toNat) h
  simp only [strB_get _ _ _ hj, Option.map_some, Option.some.injEq] at this
  rwa [ofNat_toNat _ (byteAt_lt _ _), ofNat_toNat _ (byteAt_lt _ _)] at this
theorem strB_app (k l a c : Nat) (h : a < 2 ^ (8 * k)) : strB (k + l) (a + c * 2 ^ (8 * k)) = strB k a ++ strB l c := by
  apply List.ext_getElem?
  intro j
  rw [List.getElem?_append]
  simp only [strB_length]
  by_cases hj : j < k
  · rw [if_pos hj, strB_get _ _ _ (by omega), strB_get _ _ _ hj, byteAt_add _ _ _ _ h, if_pos hj]
  · rw [if_neg hj]
    by_cases h2 : j < k + l
    · rw [strB_get _ _ _ h2, strB_get _ _ _ (by omega), byteAt_add _ _ _ _ h, if_neg hj]
    · rw [List.getElem?_eq_none (by simp [strB_length]; omega), List.getElem?_eq_none (by simp [strB_length]; omega)]
theorem add_lt (k l a c : Nat) (h : a < 2 ^ (8 * k)) (hc : c < 2 ^ (8 * l)) : a + c * 2 ^ (8 * k) < 2 ^ (8 * (k + l)) := by
  have e : 2 ^ (8 * (k + l)) = 2 ^ (8 * l) * 2 ^ (8 * k) := by rw [← Nat.pow_add]; congr 1; omega
  have h1 : (c + 1) * 2 ^ (8 * k) ≤ 2 ^ (8 * l) * 2 ^ (8 * k) := Nat.mul_le_mul_right _ hc
  rw [Nat.succ_mul] at h1
  omega
theorem strB_sub (len n off k : Nat) (h : off + k ≤ len) : strB k (low (n >>> (8 * off)) k) = ((strB len n).drop off).take k := by
  apply List.ext_getElem?
  intro j
  rw [List.getElem?_take]
  by_cases hj : j < k
  · rw [if_pos hj, List.getElem?_drop, strB_get _ _ _ hj, strB_get _ _ _ (by omega), byteAt_low _ _ _ hj, byteAt_shr]
  · rw [if_neg hj, List.getElem?_eq_none (by simp [strB_length]; omega)]
theorem packL_eq : ∀ (l : List UInt8), packL l < 2 ^ (8 * l.length) ∧ strB l.length (packL l) = l
  | [] => ⟨by simp [packL], rfl⟩
  | a :: l => by
    obtain ⟨h1, h2⟩ := packL_eq l
    have hb : a.toNat < 2 ^ (8 * 1) := a.toNat_lt
    have e : packL (a :: l) = a.toNat + packL l * 2 ^ (8 * 1) := by
      show a.toNat + 256 * packL l = _
      rw [Nat.mul_comm]
    rw [e, List.length_cons, Nat.add_comm l.length 1]
    refine ⟨add_lt 1 l.length _ _ hb h1, ?_⟩
    rw [strB_app 1 _ _ _ hb, h2]
    show [UInt8.ofNat (byteAt a.toNat 0)] ++ l = a :: l
    have : UInt8.ofNat (byteAt a.toNat 0) = a := by
      rw [byteAt_eq]; simp
    rw [this]; rfl
end Go.AX
