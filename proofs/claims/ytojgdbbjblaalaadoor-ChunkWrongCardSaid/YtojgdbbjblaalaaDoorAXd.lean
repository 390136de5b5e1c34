/- A part of the proof: an interpreter of the model's own code on partly known states, and that what it answers is what the program answers. No condition of its own. -/
import Derived.Test.YtojgdbbjblaalaaDoorAXc
set_option linter.unusedSimpArgs false
set_option linter.unusedVariables false
namespace Go.AX
theorem ble_true {a b : Nat} (h : a ≤ b) : Nat.ble a b = true := Nat.ble_eq_true_of_le h
theorem blt_true {a b : Nat} (h : a < b) : Nat.blt a b = true := Nat.ble_eq_true_of_le h
theorem ble_false {a b : Nat} (h : ¬ a ≤ b) : Nat.ble a b = false := Bool.eq_false_iff.2 fun e => h (Nat.le_of_ble_eq_true e)
theorem blt_false {a b : Nat} (h : ¬ a < b) : Nat.blt a b = false := Bool.eq_false_iff.2 fun e => h (Nat.le_of_ble_eq_true e)
theorem lget_eq : ∀ (l : List AV) (n : Nat), lget l n = l[n]?
  | [], n => by simp [lget]
  | a :: l, n => by
    unfold lget
    cases n with
    | zero => rfl
    | succ n => show lget l n = _; rw [lget_eq l n]; simp
theorem unp_length (len n : Nat) : (unp len n).length = len := by simp [unp]
theorem unp_get (len n j : Nat) : (unp len n)[j]? = if j < len then some (.i .u8 (.ofNat (byteAt n j))) else none := by
  unfold unp
  split
  · rename_i h; simp [h]
  · rename_i h; simp; omega
theorem unp_ext {len n : Nat} {l : List AV} (h : l.length = len) (hj : ∀ j, j < len → l[j]? = some (.i .u8 (.ofNat (byteAt n j)))) : unp len n = l := by
  apply List.ext_getElem?
  intro j
  rw [unp_get]
  split
  · rename_i hlt; rw [hj j hlt]
  · rename_i hlt; rw [List.getElem?_eq_none (by omega)]
theorem Cells.len_eq (c : Cells) : c.len = c.toL.length := by
  cases c <;> simp [Cells.len, Cells.toL, unp_length]
theorem Cells.get_eq (c : Cells) (j : Nat) : c.get j = c.toL[j]? := by
  cases c with
  | l vs => exact lget_eq vs j
  | y len n =>
    simp only [Cells.get, Cells.toL, unp_get]
    by_cases h : j < len
    · rw [if_pos h, blt_true h]; rfl
    · rw [if_neg h, blt_false h]; rfl
theorem Cells.sub_spec {c c' : Cells} {o n : Nat} (h : c.sub o n = some c') : o + n ≤ c.len ∧ c'.toL = (c.toL.drop o).take n ∧ CW c' := by
  cases c with
  | l vs =>
    simp only [Cells.sub] at h
    by_cases hc : o + n ≤ vs.length
    · rw [show Nat.ble (Nat.add o n) vs.length = true from Nat.ble_eq_true_of_le hc] at h
      injection h with h; subst h; exact ⟨hc, rfl, trivial⟩
    · rw [show Nat.ble (Nat.add o n) vs.length = false from ble_false hc] at h; cases h
  | y len m =>
    simp only [Cells.sub] at h
    by_cases hc : o + n ≤ len
    · rw [show Nat.ble (Nat.add o n) len = true from Nat.ble_eq_true_of_le hc] at h
      injection h with h; subst h
      refine ⟨hc, ?_, low_lt _ _⟩
      show unp n (low (m >>> (8 * o)) n) = _
      refine unp_ext (by simp [Cells.toL, unp_length]; omega) fun j hj => ?_
      show ((unp len m).drop o |>.take n)[j]? = _
      rw [List.getElem?_take, if_pos hj, List.getElem?_drop, unp_get, if_pos (by omega), byteAt_low _ _ _ hj, byteAt_shr]
    · rw [show Nat.ble (Nat.add o n) len = false from ble_false hc] at h; cases h
theorem putL_get : ∀ (l : List AV) (o : Nat) (d : List AV) (j : Nat), o ≤ l.length → (putL l o d)[j]? = if j < o then l[j]? else if j < o + d.length then d[j - o]? else l[j]?
  | l, 0, d, j, _ => by
    cases l with
    | nil =>
      simp only [putL, List.drop_nil, List.append_nil, Nat.not_lt_zero, if_false, Nat.zero_add, Nat.sub_zero]
      split
      · rfl
      · rw [List.getElem?_eq_none (by omega)]; simp
    | cons v l =>
      simp only [putL, Nat.not_lt_zero, if_false, Nat.zero_add, Nat.sub_zero]
      rw [List.getElem?_append]
      split
      · rfl
      · rw [List.getElem?_drop]; congr 1; omega
  | [], o + 1, d, j, h => by simp at h
  | v :: l, o + 1, d, j, h => by
    simp only [putL]
    cases j with
    | zero => simp
    | succ j =>
      simp only [List.getElem?_cons_succ, Nat.add_lt_add_iff_right]
      rw [putL_get l o d j (by simpa using h)]
      have e1 : j + 1 < o + 1 + d.length ↔ j < o + d.length := by omega
      simp only [e1, show j + 1 - (o + 1) = j - o by omega]
theorem putL_length : ∀ (l : List AV) (o : Nat) (d : List AV), o ≤ l.length → (putL l o d).length = max l.length (o + d.length)
  | l, 0, d, _ => by
    cases l <;> simp [putL] <;> omega
  | [], o + 1, d, h => by simp at h
  | v :: l, o + 1, d, h => by
    simp only [putL, List.length_cons]
    rw [putL_length l o d (by simpa using h)]; omega
theorem lay_byte (n m k o len j : Nat) (ho : o ≤ len) (hn : n < 2 ^ (8 * len)) (hm : m < 2 ^ (8 * k)) :
    byteAt (low n o + (m * 2 ^ (8 * o) + (n >>> (8 * (o + k))) * 2 ^ (8 * (o + k)))) j = if j < o then byteAt n j else if j < o + k then byteAt m (j - o) else byteAt n j := by
  have e : low n o + (m * 2 ^ (8 * o) + (n >>> (8 * (o + k))) * 2 ^ (8 * (o + k))) = low n o + (m + (n >>> (8 * (o + k))) * 2 ^ (8 * k)) * 2 ^ (8 * o) := by
    rw [Nat.add_mul, Nat.mul_assoc, ← Nat.pow_add]; congr 4; omega
  rw [e, byteAt_add _ _ _ _ (low_lt _ _)]
  split
  · rename_i h; exact byteAt_low _ _ _ h
  · rename_i h
    rw [byteAt_add _ _ _ _ hm]
    by_cases h2 : j < o + k
    · rw [if_pos (by omega), if_pos h2]
    · rw [if_neg (by omega), if_neg h2, byteAt_shr]; congr 1; omega
theorem lay_lt (n m k o len : Nat) (ho : o ≤ len) (hn : n < 2 ^ (8 * len)) (hm : m < 2 ^ (8 * k)) :
    low n o + (m * 2 ^ (8 * o) + (n >>> (8 * (o + k))) * 2 ^ (8 * (o + k))) < 2 ^ (8 * max len (o + k)) := by
  have e : low n o + (m * 2 ^ (8 * o) + (n >>> (8 * (o + k))) * 2 ^ (8 * (o + k))) = (low n o + m * 2 ^ (8 * o)) + (n >>> (8 * (o + k))) * 2 ^ (8 * (o + k)) := by omega
  rw [e]
  have h1 := add_lt o k (low n o) m (low_lt _ _) hm
  by_cases hc : len ≤ o + k
  · rw [Nat.shiftRight_eq_div_pow, Nat.div_eq_of_lt (Nat.lt_of_lt_of_le hn (Nat.pow_le_pow_right (by omega) (by omega))), Nat.zero_mul, Nat.add_zero, Nat.max_eq_right hc]
    exact h1
  · have h2 : n >>> (8 * (o + k)) < 2 ^ (8 * (len - (o + k))) := by
      rw [Nat.shiftRight_eq_div_pow]
      apply Nat.div_lt_of_lt_mul
      rw [← Nat.pow_add, show 8 * (o + k) + 8 * (len - (o + k)) = 8 * len by omega]; exact hn
    have := add_lt (o + k) (len - (o + k)) _ _ h1 h2
    rw [show o + k + (len - (o + k)) = max len (o + k) by omega] at this
    exact this
theorem Cells.put_spec {c d c' : Cells} {o : Nat} (hc : CW c) (hd : CW d) (h : c.put o d = some c') : o ≤ c.len ∧ c'.toL = putL c.toL o d.toL ∧ CW c' := by
  have gen : (cond (Nat.ble o c.len) (some (Cells.l (putL c.toL o d.toL))) none) = some c' → o ≤ c.len ∧ c'.toL = putL c.toL o d.toL ∧ CW c' := by
    intro h
    by_cases hcl : o ≤ c.len
    · rw [show Nat.ble o c.len = true from Nat.ble_eq_true_of_le hcl] at h
      injection h with h; subst h; exact ⟨hcl, rfl, trivial⟩
    · rw [ble_false hcl] at h; cases h
  cases c with
  | l vs => exact gen h
  | y len n =>
    cases d with
    | l ws => exact gen h
    | y k m =>
      simp only [Cells.put] at h
      by_cases hcl : o ≤ len
      · rw [show Nat.ble o len = true from Nat.ble_eq_true_of_le hcl] at h
        injection h with h; subst h
        refine ⟨hcl, ?_, ?_⟩
        · show unp (max len (o + k)) (low n o + (m <<< (8 * o) + (n >>> (8 * (o + k))) <<< (8 * (o + k)))) = _
          simp only [Nat.shiftLeft_eq]
          refine unp_ext (by rw [putL_length _ _ _ (by simpa [Cells.toL, unp_length] using hcl)]; simp [Cells.toL, unp_length]) fun j hj => ?_
          rw [putL_get _ _ _ _ (by simpa [Cells.toL, unp_length] using hcl), lay_byte n m k o len j hcl hc hd]
          simp only [Cells.toL, unp_length]
          by_cases h1 : j < o
          · rw [if_pos h1, if_pos h1, unp_get, if_pos (by omega)]
          · rw [if_neg h1, if_neg h1]
            by_cases h2 : j < o + k
            · rw [if_pos h2, if_pos h2, unp_get, if_pos (by omega)]
            · rw [if_neg h2, if_neg h2, unp_get, if_pos (by omega)]
        · show low n o + (m <<< (8 * o) + (n >>> (8 * (o + k))) <<< (8 * (o + k))) < _
          simp only [Nat.shiftLeft_eq]
          exact lay_lt n m k o len hcl hc hd
      · rw [ble_false hcl] at h; cases h
theorem Cells.app_spec {c d : Cells} (hc : CW c) (hd : CW d) : (c.app d).toL = c.toL ++ d.toL ∧ CW (c.app d) := by
  cases c with
  | l vs => exact ⟨rfl, trivial⟩
  | y len n =>
    cases d with
    | l ws => exact ⟨rfl, trivial⟩
    | y k m =>
      refine ⟨?_, ?_⟩
      · show unp (len + k) (n + m <<< (8 * len)) = _
        rw [Nat.shiftLeft_eq]
        refine unp_ext (by simp [Cells.toL, unp_length]) fun j hj => ?_
        rw [List.getElem?_append, byteAt_add _ _ _ _ hc]
        simp only [Cells.toL, unp_length]
        by_cases h1 : j < len
        · rw [if_pos h1, if_pos h1, unp_get, if_pos h1]
        · rw [if_neg h1, if_neg h1, unp_get, if_pos (by omega)]
      · show n + m <<< (8 * len) < _
        rw [Nat.shiftLeft_eq]
        exact add_lt _ _ _ _ hc hd
theorem byteOne_spec {v : AV} {x : Nat} (h : byteOne v = some x) : v = .i .u8 (.ofNat x) ∧ x < 256 := by
  unfold byteOne at h
  split at h
  · rename_i n
    by_cases hn : n < 256
    · rw [show Nat.blt n 256 = true from Nat.ble_eq_true_of_le hn] at h; injection h with h; subst h; exact ⟨rfl, hn⟩
    · rw [blt_false hn] at h; cases h
  · cases h
theorem Cells.set1_spec {c c' : Cells} {o : Nat} {v : AV} (hc : CW c) (h : c.set1 o v = some c') : o < c.len ∧ c'.toL = putL c.toL o [v] ∧ CW c' := by
  cases c with
  | l vs =>
    simp only [Cells.set1] at h
    by_cases hcl : o < vs.length
    · rw [show Nat.blt o vs.length = true from Nat.ble_eq_true_of_le hcl] at h
      injection h with h; subst h; exact ⟨hcl, rfl, trivial⟩
    · rw [blt_false hcl] at h; cases h
  | y len n =>
    simp only [Cells.set1] at h
    cases hb : byteOne v with
    | none => rw [hb] at h; cases h
    | some x =>
      rw [hb] at h
      obtain ⟨rfl, hx⟩ := byteOne_spec hb
      by_cases hcl : o < len
      · simp only [show Nat.blt o len = true from Nat.ble_eq_true_of_le hcl, cond_true] at h
        injection h with h; subst h
        have e : ∀ j, (if j < o then byteAt n j else if j < o + 1 then byteAt x (j - o) else byteAt n j) = byteAt (low n o + (x <<< (8 * o) + (n >>> (8 * (o + 1))) <<< (8 * (o + 1)))) j := fun j => by
          simp only [Nat.shiftLeft_eq]
          exact (lay_byte n x 1 o len j (by omega) hc hx).symm
        refine ⟨hcl, ?_, ?_⟩
        · show unp len (low n o + (x <<< (8 * o) + (n >>> (8 * (o + 1))) <<< (8 * (o + 1)))) = _
          refine unp_ext (by rw [putL_length _ _ _ (by simp [Cells.toL, unp_length]; omega)]; simp [Cells.toL, unp_length]; omega) fun j hj => ?_
          rw [putL_get _ _ _ _ (by simp [Cells.toL, unp_length]; omega), ← e j]
          simp only [Cells.toL, List.length_cons, List.length_nil, Nat.zero_add]
          by_cases h1 : j < o
          · rw [if_pos h1, if_pos h1, unp_get, if_pos (by omega)]
          · rw [if_neg h1, if_neg h1]
            by_cases h2 : j < o + 1
            · rw [if_pos h2, if_pos h2, show j - o = 0 by omega]
              simp [byteAt_eq]; omega
            · rw [if_neg h2, if_neg h2, unp_get, if_pos (by omega)]
        · have := lay_lt n x 1 o len (by omega) hc hx
          rw [Nat.max_eq_left (by omega)] at this
          show low n o + (x <<< (8 * o) + (n >>> (8 * (o + 1))) <<< (8 * (o + 1))) < _
          simp only [Nat.shiftLeft_eq]
          exact this
      · simp only [blt_false hcl, cond_false] at h; cases h
theorem packA_spec : ∀ {l : List AV} {k n : Nat}, packA l = some (k, n) → k = l.length ∧ unp k n = l ∧ n < 2 ^ (8 * k)
  | [], k, n, h => by simp [packA] at h; obtain ⟨rfl, rfl⟩ := h; exact ⟨rfl, rfl, by simp⟩
  | v :: l, k, n, h => by
    unfold packA at h
    split at h
    · rename_i x k' n' hx hl
      simp only [Option.some.injEq, Prod.mk.injEq] at h
      obtain ⟨rfl, rfl⟩ := h
      obtain ⟨h1, h2, h3⟩ := packA_spec hl
      obtain ⟨rfl, hx'⟩ := byteOne_spec hx
      have hb : x < 2 ^ (8 * 1) := hx'
      have e : Nat.add x (Nat.mul 256 n') = x + n' * 2 ^ (8 * 1) := by show x + 256 * n' = _; rw [Nat.mul_comm]
      refine ⟨by simp [h1], ?_, ?_⟩
      · rw [e, show Nat.succ k' = 1 + k' by omega]
        refine unp_ext (by simp [h1]; omega) fun j hj => ?_
        rw [byteAt_add _ _ _ _ hb]
        cases j with
        | zero => simp [byteAt_eq]; omega
        | succ j =>
          rw [if_neg (by omega)]
          have := congrArg (fun l => l[j]?) h2
          simp only [unp_get] at this
          rw [if_pos (by omega)] at this
          simp only [List.getElem?_cons_succ, Nat.add_sub_cancel]
          rw [← this]
      · rw [e, show Nat.succ k' = 1 + k' by omega]; exact add_lt 1 k' _ _ hb h3
    · cases h
theorem toCells_spec (u : Bool) (l : List AV) : (toCells u l).toL = l ∧ CW (toCells u l) := by
  cases u with
  | false => exact ⟨rfl, trivial⟩
  | true =>
    unfold toCells
    simp only [cond_true]
    cases h : packA l with
    | none => exact ⟨rfl, trivial⟩
    | some r => obtain ⟨k, n⟩ := r
                obtain ⟨h1, h2, h3⟩ := packA_spec h
                exact ⟨h2, h3⟩
theorem rep_spec {c : Cells} (hc : CW c) : ∀ n, (rep c n).toL = (List.replicate n c.toL).flatten ∧ CW (rep c n)
  | 0 => by cases c <;> simp [rep, Cells.toL, CW, unp]
  | n + 1 => by
    obtain ⟨h1, h2⟩ := rep_spec hc n
    obtain ⟨h3, h4⟩ := Cells.app_spec hc h2
    exact ⟨by rw [rep, h3, h1]; simp [List.replicate_succ], h4⟩
theorem unp_zero (len : Nat) : unp len 0 = List.replicate len (.i .u8 (.ofNat 0)) := by
  refine unp_ext (by simp) fun j hj => ?_
  rw [byteAt_eq]; simp [hj]
theorem reps_spec {c : Cells} (hc : CW c) (n : Nat) : (reps c n).toL = (List.replicate n c.toL).flatten ∧ CW (reps c n) := by
  unfold reps
  split
  · rename_i len
    refine ⟨?_, Nat.two_pow_pos _⟩
    show unp (len * n) 0 = (List.replicate n (unp len 0)).flatten
    rw [unp_zero, unp_zero, List.flatten_replicate_replicate, Nat.mul_comm]
  · exact rep_spec hc n
end Go.AX
