/- A part of the proof: an interpreter of the model's own code on partly known states, and that what it answers is what the program answers. No condition of its own. -/
import Derived.Test.YtbipkiiaajklhaaDoorHXpart4
set_option linter.unusedSimpArgs false
set_option linter.unusedVariables false
namespace Go.AX
/- paths put right -/
abbrev LL := List LB
def MPb : Nat := 170141183460469231731687444457667428351
def pbB (b : UInt8) : Bool := tb8 MPb (b.toNat : Int)
def psB (p : LB) : Bool := p == [] || p == [46]
def ddB (p : LB) : Bool := p == [46, 46]
def sp47 : LB → LB → LL
  | cur, [] => [cur]
  | cur, c :: r => if c = 47 then cur :: sp47 [] r else sp47 (cur ++ [c]) r
def decG (un : LB → Option LB) (raw : LB) : Option LB := match un raw with | none => none | some p => if p.any pbB then none else some p
def stpG (un : LB → Option LB) (r : LB) (k : LL) : Option LL := match decG un r with
  | none => none
  | some p => if ddB p then (if k = [] then none else some k.dropLast) else if psB p then some k else some (k ++ [p])
def clL (un : LB → Option LB) : LL → LL → Option (LL × LB)
  | [], k => some (k, [])
  | r :: rs, k => if rs = [] then some (k, r) else match stpG un r k with | none => none | some k' => clL un rs k'
def clE (un : LB → Option LB) (um : LB → LL → LB) : LL → LL → LB
  | [], _ => []
  | r :: rs, k => if rs = [] then [] else match stpG un r k with | none => um r k | some k' => clE un um rs k'
def kpB (un : LB → Option LB) (r : LB) : Bool := match decG un r with | some p => !(ddB p) && !(psB p) | none => false
def apL (un : LB → Option LB) : LL → Bool
  | [] => false
  | r :: rs => if rs = [] then false else kpB un r || apL un rs
def fl47 : LL → LB
  | [] => []
  | a :: r => 47 :: (a ++ fl47 r)
def aD6 : LL → LB
  | [] => []
  | a :: r => a ++ fl47 r
def outS (kl : LL × LB) : LB := 47 :: (aD6 kl.1 ++ (if kl.1 ≠ [] ∧ (psB kl.2 || ddB kl.2) = true then [47] else []))
def aB4 (un : LB → Option LB) (s : LB) : Option LB := if s.head? = some 47 then
    match clL un (sp47 [] s) [] with
    | none => none
    | some (k, t) => match stpG un t k with | none => none | some k' => some (outS (k', (decG un t).getD []))
  else none
def outR (kl : LL × LB) : LB := fl47 kl.1 ++ (if (psB kl.2 || ddB kl.2) = true ∨ fl47 kl.1 = [] then [47] else [])
def kp0 (c : LB) : LL := if c = [] then [] else [c]
def sgL : LL → LL
  | [] => []
  | r :: rs => if rs = [] then [] else kp0 r ++ sgL rs
def lsP : LL → LB
  | [] => []
  | r :: rs => if rs = [] then r else lsP rs
def segS (s : LB) : LL := (sp47 [] s).filter (fun p => !(p == []))
def good (k : LB) : Prop := k ≠ [] ∧ k ≠ [46] ∧ k ≠ [46, 46] ∧ k.any pbB = false
theorem aZ9 : ∀ (s cur : LB), sp47 cur s ≠ []
  | [], cur => by simp [sp47]
  | c :: r, cur => by unfold sp47; split <;> simp [aZ9]
theorem dX4 : ∀ (l cur : LB), idxB l 47 < 0 → sp47 cur l = [cur ++ l]
  | [], cur, _ => by simp [sp47]
  | b :: l, cur, h => by
    unfold idxB at h
    unfold Lib.indexByte at h
    have h44 : u8 47 = 47 := rfl
    rw [h44] at h
    split at h
    · exact absurd h (by decide)
    · rename_i hb
      have hne : ¬ b = 47 := by simpa using hb
      have hl : idxB l 47 < 0 := by
        unfold idxB; rw [h44]
        split at h
        · rename_i h1; rw [beq_iff_eq] at h1; omega
        · have := Lib.indexByte_ge l 47; omega
      rw [sp47, if_neg hne, dX4 l _ hl]; simp
theorem dV7 : ∀ (l cur : LB), 0 ≤ idxB l 47 → sp47 cur l = (cur ++ l.take (idxB l 47).toNat) :: sp47 [] (l.drop (idxB l 47 + 1).toNat)
  | [], cur, h => absurd h (by decide)
  | b :: l, cur, h => by
    have h44 : u8 47 = 47 := rfl
    by_cases hb : b = 47
    · have e : idxB (b :: l) 47 = 0 := by unfold idxB Lib.indexByte; rw [h44, hb]; rfl
      rw [e]; subst hb
      rw [sp47, if_pos rfl]; simp
    · have hb' : (b == (47 : UInt8)) = false := by simpa using hb
      have e : idxB (b :: l) 47 = if Lib.indexByte l 47 == -1 then -1 else Lib.indexByte l 47 + 1 := by
        unfold idxB; rw [h44]; show Lib.indexByte (b :: l) 47 = _
        rw [Lib.indexByte, hb']; rfl
      have hl : idxB l 47 = Lib.indexByte l 47 := by unfold idxB; rw [h44]
      have h0 : 0 ≤ idxB l 47 ∧ idxB (b :: l) 47 = idxB l 47 + 1 := by
        rw [e] at h ⊢
        rw [hl]
        split at h
        · exact absurd h (by decide)
        · rename_i h1
          have := Lib.indexByte_ge l 47
          have h2 : ¬ Lib.indexByte l 47 = -1 := by simpa using h1
          rw [if_neg h1]
          omega
      rw [sp47, if_neg hb, dV7 l _ h0.1, h0.2]
      have e1 : (idxB l 47 + 1).toNat = (idxB l 47).toNat + 1 := by omega
      have e2 : (idxB l 47 + 1 + 1).toNat = (idxB l 47 + 1).toNat + 1 := by omega
      rw [e2, List.drop_succ_cons, e1, List.take_succ_cons]; simp
theorem aP7 (l : LB) (c : Int) : -1 ≤ idxB l c ∧ idxB l c < (l.length : Int) := by
  unfold idxB
  induction l with
  | nil => simp [Lib.indexByte]
  | cons b l ih =>
    unfold Lib.indexByte
    split
    · simp only [List.length_cons]; omega
    · split
      · simp only [List.length_cons]; omega
      · simp only [List.length_cons]; omega
-- the rounds
section
variable {un : LB → Option LB} {um : LB → LL → LB} {r : LB} {o k' : LL} {X : Option (LL × LB)} {M : LB} {Tr : LB} {To : LL} {B A : Bool}
theorem clL_at (h : 0 ≤ idxB r 47) : clL un (sp47 [] r) o = (match stpG un (r.take (idxB r 47).toNat) o with | none => none | some k' => clL un (sp47 [] (r.drop (idxB r 47 + 1).toNat)) k') := by
  rw [dV7 r [] h, clL, if_neg (aZ9 _ _)]; rfl
theorem clE_at (h : 0 ≤ idxB r 47) : clE un um (sp47 [] r) o = (match stpG un (r.take (idxB r 47).toNat) o with | none => um (r.take (idxB r 47).toNat) o | some k' => clE un um (sp47 [] (r.drop (idxB r 47 + 1).toNat)) k') := by
  rw [dV7 r [] h, clE, if_neg (aZ9 _ _)]; rfl
theorem eL7 (h : 0 ≤ idxB r 47) (hs : stpG un (r.take (idxB r 47).toNat) o = some k') (h1 : clL un (sp47 [] r) o = X) : clL un (sp47 [] (r.drop (idxB r 47 + 1).toNat)) k' = X := by rw [← h1, clL_at h, hs]
theorem eL8 (h : 0 ≤ idxB r 47) (hs : stpG un (r.take (idxB r 47).toNat) o = some k') (h1 : clE un um (sp47 [] r) o = M) : clE un um (sp47 [] (r.drop (idxB r 47 + 1).toNat)) k' = M := by rw [← h1, clE_at h, hs]
theorem bK1 (h : 0 ≤ idxB r 47) (hs : stpG un (r.take (idxB r 47).toNat) o = none) (h1 : clL un (sp47 [] r) o = X) : X = none := by rw [← h1, clL_at h, hs]
theorem dU2 (h : 0 ≤ idxB r 47) (hs : stpG un (r.take (idxB r 47).toNat) o = none) (h1 : clE un um (sp47 [] r) o = M) : um (r.take (idxB r 47).toNat) o = M := by rw [← h1, clE_at h, hs]
theorem cS9 (h : idxB r 47 < 0) (h1 : clL un (sp47 [] r) o = X) : X = some (o, r) := by rw [← h1, dX4 r [] h]; rfl
theorem ap_at (h : 0 ≤ idxB r 47) : apL un (sp47 [] r) = (kpB un (r.take (idxB r 47).toNat) || apL un (sp47 [] (r.drop (idxB r 47 + 1).toNat))) := by
  rw [dV7 r [] h, apL, if_neg (aZ9 _ _)]; rfl
theorem ap_yes (h : 0 ≤ idxB r 47) (hk : kpB un (r.take (idxB r 47).toNat) = true) (h1 : (A || apL un (sp47 [] r)) = B) : B = true := by rw [← h1, ap_at h, hk]; simp
theorem ap_no (h : 0 ≤ idxB r 47) (hk : kpB un (r.take (idxB r 47).toNat) = false) (h1 : (A || apL un (sp47 [] r)) = B) : (A || apL un (sp47 [] (r.drop (idxB r 47 + 1).toNat))) = B := by rw [← h1, ap_at h, hk, Bool.false_or]
theorem ap_end (h : idxB r 47 < 0) (h1 : (A || apL un (sp47 [] r)) = B) : B = A := by rw [← h1, dX4 r [] h]; cases A <;> rfl
theorem sg_at (h : 0 ≤ idxB r 47) (h1 : o ++ sgL (sp47 [] r) = To) : (o ++ kp0 (r.take (idxB r 47).toNat)) ++ sgL (sp47 [] (r.drop (idxB r 47 + 1).toNat)) = To := by
  rw [← h1, dV7 r [] h, sgL, if_neg (aZ9 _ _)]; simp
theorem sg_1 (h : 0 ≤ idxB r 47) (hk : ¬ r.take (idxB r 47).toNat = []) (h1 : o ++ sgL (sp47 [] r) = To) : (o ++ [r.take (idxB r 47).toNat]) ++ sgL (sp47 [] (r.drop (idxB r 47 + 1).toNat)) = To := by
  have := sg_at h h1; rw [kp0, if_neg hk] at this; exact this
theorem sg_0 (h : 0 ≤ idxB r 47) (hk : r.take (idxB r 47).toNat = []) (h1 : o ++ sgL (sp47 [] r) = To) : o ++ sgL (sp47 [] (r.drop (idxB r 47 + 1).toNat)) = To := by
  have := sg_at h h1; rw [kp0, if_pos hk, List.append_nil] at this; exact this
theorem sg_l (h : 0 ≤ idxB r 47) (h1 : lsP (sp47 [] r) = Tr) : lsP (sp47 [] (r.drop (idxB r 47 + 1).toNat)) = Tr := by
  rw [← h1, dV7 r [] h, lsP, if_neg (aZ9 _ _)]
theorem sg_o (h : idxB r 47 < 0) (h1 : o ++ sgL (sp47 [] r) = To) : o = To := by rw [← h1, dX4 r [] h]; simp [sgL]
theorem sg_r (h : idxB r 47 < 0) (h1 : lsP (sp47 [] r) = Tr) : r = Tr := by rw [← h1, dX4 r [] h]; rfl
end
theorem seg_eq : ∀ l : LL, l ≠ [] → l.filter (fun p => !(p == [])) = sgL l ++ kp0 (lsP l)
  | [], h => absurd rfl h
  | [r], _ => by
    rw [sgL, if_pos rfl, lsP, if_pos rfl, kp0, List.filter_cons]
    by_cases h : r = []
    · subst h; rfl
    · rw [if_neg h, if_pos (by simpa using h)]; rfl
  | r :: r' :: rs, _ => by
    have ih := seg_eq (r' :: rs) (by simp)
    rw [sgL, if_neg (by simp), lsP, if_neg (by simp), List.filter_cons, ih]
    by_cases h : r = []
    · subst h; rfl
    · have e : kp0 r = [r] := if_neg h
      rw [if_pos (by simpa using h), e]; rfl
theorem dX8 (s : LB) : segS s = sgL (sp47 [] s) ++ kp0 (lsP (sp47 [] s)) := seg_eq _ (aZ9 _ _)
theorem kp0_len (c : LB) : (kp0 c).length ≤ 1 := by unfold kp0; split <;> simp
def tot : LL → Nat
  | [] => 0
  | a :: r => a.length + 1 + tot r
theorem bI8 : ∀ (s cur : LB), tot (sp47 cur s) = cur.length + s.length + 1
  | [], cur => by simp [sp47, tot]
  | c :: r, cur => by
    unfold sp47
    split
    · rw [tot, bI8 r []]; simp only [List.length_cons, List.length_nil]; omega
    · rw [bI8 r]; simp only [List.length_append, List.length_cons, List.length_nil]; omega
theorem dX7 : ∀ l : LL, l ≠ [] → (sgL l).length + (lsP l).length + 1 ≤ tot l
  | [], h => absurd rfl h
  | [r], _ => by rw [sgL, if_pos rfl, lsP, if_pos rfl]; simp [tot]
  | r :: r' :: rs, _ => by
    have ih := dX7 (r' :: rs) (by simp)
    have := kp0_len r
    rw [sgL, if_neg (by simp), lsP, if_neg (by simp), tot, List.length_append]
    omega
theorem bO0 (s : LB) : (sgL (sp47 [] s)).length + (lsP (sp47 [] s)).length ≤ s.length := by
  have := dX7 (sp47 [] s) (aZ9 _ _); rw [bI8] at this; simp only [List.length_nil] at this; omega
theorem aW9 : ∀ a b : LL, fl47 (a ++ b) = fl47 a ++ fl47 b
  | [], b => rfl
  | x :: a, b => by rw [List.cons_append, fl47, fl47, aW9 a b]; simp
theorem flat_join (k : LL) (h : k ≠ []) : fl47 k = 47 :: aD6 k := by
  cases k with
  | nil => exact absurd rfl h
  | cons a r => rfl
theorem out_eq (kl : LL × LB) : outS kl = outR kl := by
  obtain ⟨k, l⟩ := kl
  by_cases h : k = []
  · subst h; simp [outS, outR, aD6, fl47]
  · have e := flat_join k h
    unfold outS outR
    simp only [e, ne_eq, h, not_false_eq_true, true_and, List.cons_ne_nil, or_false, List.cons_append]
theorem dN4 {un : LB → Option LB} {r : LB} {k k' : LL} (h : stpG un r k = some k') (hg : ∀ p ∈ k, good p) : ∀ p ∈ k', good p := by
  unfold stpG at h
  split at h
  · cases h
  · rename_i p hp
    split at h
    · split at h
      · cases h
      · injection h with h; subst h; exact fun q hq => hg q (List.dropLast_subset _ hq)
    · split at h
      · injection h with h; subst h; exact hg
      · rename_i h1 h2
        injection h with h; subst h
        intro q hq
        rcases List.mem_append.mp hq with h3 | h3
        · exact hg q h3
        · have : q = p := by simpa using h3
          subst this
          unfold decG at hp
          split at hp
          · cases hp
          · split at hp
            · cases hp
            · rename_i q' hq' hb
              injection hp with hp; subst hp
              refine ⟨?_, ?_, ?_, by simpa using hb⟩
              · intro e; subst e; exact h2 (by decide)
              · intro e; subst e; exact h2 (by decide)
              · intro e; subst e; exact h1 (by decide)
theorem eL6 {un : LB → Option LB} : ∀ (rs : LL) (k : LL) (o : LL × LB), (∀ p ∈ k, good p) → clL un rs k = some o → ∀ p ∈ o.1, good p
  | [], k, o, h, e => by simp only [clL, Option.some.injEq] at e; subst e; exact h
  | r :: rs, k, o, h, e => by
    rw [clL] at e
    split at e
    · simp only [Option.some.injEq] at e; subst e; exact h
    · split at e
      · cases e
      · rename_i k' hk
        exact eL6 rs k' o (dN4 hk h) e
theorem clean_inv {un : LB → Option LB} {s a : LB} (h : aB4 un s = some a) : s.head? = some 47 ∧ ∃ k t k', clL un (sp47 [] s) [] = some (k, t) ∧ stpG un t k = some k' ∧ a = outS (k', (decG un t).getD []) ∧ ∀ p ∈ k', good p := by
  unfold aB4 at h
  split at h
  · rename_i hh
    refine ⟨hh, ?_⟩
    split at h
    · cases h
    · rename_i k t e
      split at h
      · cases h
      · rename_i k' e'
        injection h with h
        exact ⟨k, t, k', e, e', h.symm, dN4 e' (eL6 _ _ _ (fun _ hk => absurd hk (by simp)) e)⟩
  · cases h
-- splitting what was joined
def no47 (p : LB) : Prop := ∀ c ∈ p, c ≠ 47
-- putting right again
section
variable {un : LB → Option LB} {es : LB → LB} (hun : ∀ x : LB, x.any pbB = false → un (es x) = some x) (happ : ∀ a b, es (a ++ b) = es a ++ es b) (h47 : es [47] = [47]) (hno : ∀ p, no47 p → no47 (es p))
end
-- how long it is
theorem cV1 {un : LB → Option LB} (hu : ∀ r p, un r = some p → p.length ≤ r.length) {r : LB} {k k' : LL} (h : stpG un r k = some k') :
    (fl47 k').length ≤ (fl47 k).length + r.length + 1 ∧ ((psB ((decG un r).getD []) || ddB ((decG un r).getD [])) = true → (fl47 k').length ≤ (fl47 k).length) := by
  unfold stpG at h
  split at h
  · cases h
  · rename_i p hp
    have hpl : p.length ≤ r.length := by
      unfold decG at hp
      split at hp
      · cases hp
      · split at hp
        · cases hp
        · rename_i q hq _; injection hp with hp; subst hp; exact hu _ _ hq
    split at h
    · split at h
      · cases h
      · rename_i hk
        injection h with h; subst h
        obtain ⟨k1, x, rfl⟩ : ∃ k1 x, k = k1 ++ [x] := ⟨k.dropLast, k.getLast hk, (List.dropLast_concat_getLast hk).symm⟩
        rw [List.dropLast_concat, aW9]
        simp only [List.length_append]
        exact ⟨by omega, fun _ => by omega⟩
    · split at h
      · injection h with h; subst h; exact ⟨by omega, fun _ => by omega⟩
      · rename_i h1 h2
        injection h with h; subst h
        rw [aW9]
        simp only [fl47, List.length_append, List.length_cons, List.length_nil]
        refine ⟨by omega, fun h3 => ?_⟩
        rw [hp, Option.getD_some] at h3
        simp only [Bool.not_eq_true] at h1 h2
        rw [h1, h2] at h3; exact absurd h3 (by decide)
theorem dI9 {un : LB → Option LB} (hu : ∀ r p, un r = some p → p.length ≤ r.length) : ∀ (rs k : LL) (o : LL × LB), rs ≠ [] → clL un rs k = some o → (fl47 o.1).length + o.2.length + 1 ≤ (fl47 k).length + tot rs
  | [], _, _, h, _ => absurd rfl h
  | r :: rs, k, o, _, e => by
    rw [clL] at e
    split at e
    · rename_i h; subst h; simp only [Option.some.injEq] at e; subst e; simp only [tot]; omega
    · rename_i hr
      split at e
      · cases e
      · rename_i k' hk
        have h1 := (cV1 hu hk).1
        have h2 := dI9 hu rs k' o hr e
        rw [tot]; omega
theorem clean_len {un : LB → Option LB} (h0 : un [] = some []) (hu : ∀ r p, un r = some p → p.length ≤ r.length) {s a : LB} (h : aB4 un s = some a) : a.length ≤ s.length := by
  obtain ⟨hh, k, t, k', e1, e2, ea, _⟩ := clean_inv h
  cases s with
  | nil => cases hh
  | cons c r =>
    have hc : c = 47 := by simpa using hh
    subst hc
    have hd0 : decG un [] = some [] := by unfold decG; rw [h0]; rfl
    have hs0 : stpG un [] [] = some [] := by unfold stpG; rw [hd0]; rfl
    rw [sp47, if_pos rfl, clL, if_neg (aZ9 _ _), hs0] at e1
    simp only at e1
    have h1 := dI9 hu _ _ _ (aZ9 _ _) e1
    rw [bI8] at h1
    obtain ⟨h2, h3⟩ := cV1 hu e2
    rw [ea, out_eq]
    unfold outR
    simp only [List.length_append, List.length_cons]
    simp only [fl47, List.length_nil] at h1
    split
    · rename_i h4
      rcases h4 with h4 | h4
      · have := h3 h4; simp only [List.length_cons, List.length_nil]; omega
      · rw [h4] at *; simp only [List.length_cons, List.length_nil]; omega
    · simp only [List.length_nil]; omega
end Go.AX

