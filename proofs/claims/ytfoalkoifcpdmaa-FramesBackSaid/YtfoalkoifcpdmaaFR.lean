/- A part of the proof: an interpreter of the model's own code on partly known states, and that what it answers is what the program answers. No condition of its own. -/
import Derived.Test.YtfoalkoifcpdmaaHKP
import Derived.Test.YtfoalkoifcpdmaaPT
set_option linter.unusedSimpArgs false
set_option linter.unusedVariables false
namespace Go.AX
/- what a request is for a backend: bytes cut into records of 512 -/
def pdI (n : Int) : Int := (-n) % 8
theorem dC6 (n : Int) : 0 ≤ pdI n ∧ pdI n ≤ 7 := by unfold pdI; omega
def spF (t i : Int) : Nat → List UInt8 → List RC × List UInt8
  | 0, s => ([], s)
  | f + 1, s => if 512 < s.length then ((t, i, s.take 512, 0) :: (spF t i f (s.drop 512)).1, (spF t i f (s.drop 512)).2) else ([], s)
def spX (t i : Int) (s : List UInt8) : List RC × List UInt8 := spF t i s.length s
def tlS (t i : Int) (r : List UInt8) : List RC := if r.length = 0 then [] else [(t, i, r, pdI (r.length : Int))]
def spS (t i : Int) (s : List UInt8) : List RC := ((spX t i s).1 ++ tlS t i (spX t i s).2) ++ [(t, i, [], 0)]
theorem dB3 {t i : Int} : ∀ (f g : Nat) (s : List UInt8), s.length ≤ f → s.length ≤ g → spF t i f s = spF t i g s
  | 0, 0, _, _, _ => rfl
  | 0, g + 1, s, hf, _ => by rw [spF, spF, if_neg (by omega)]
  | f + 1, 0, s, _, hg => by rw [spF, spF, if_neg (by omega)]
  | f + 1, g + 1, s, hf, hg => by
    rw [spF, spF]
    by_cases h : 512 < s.length
    · rw [if_pos h, if_pos h, dB3 f g (s.drop 512) (by rw [List.length_drop]; omega) (by rw [List.length_drop]; omega)]
    · rw [if_neg h, if_neg h]
section
variable {t i : Int} {s r Tr : List UInt8} {o To : List RC}
theorem cN6 (h : 512 < s.length) : spX t i s = ((t, i, s.take 512, 0) :: (spX t i (s.drop 512)).1, (spX t i (s.drop 512)).2) := by
  unfold spX
  obtain ⟨f, e⟩ : ∃ f, s.length = f + 1 := ⟨s.length - 1, by omega⟩
  rw [e, spF, if_pos h, dB3 f (s.drop 512).length (s.drop 512) (by rw [List.length_drop]; omega) (Nat.le_refl _)]
theorem bN8 (h : ¬ 512 < s.length) : spX t i s = ([], s) := by
  unfold spX
  cases hl : s.length with
  | zero => rfl
  | succ f => rw [spF, if_neg h]
theorem sx_go {c q : List UInt8} (h : (512 : Int) < (r.length : Int)) (hc : c = r.take 512) (hq : q = r.drop 512) (h1 : o ++ (spX t i r).1 = To) (h2 : (spX t i r).2 = Tr) : (o ++ [(t, i, c, 0)]) ++ (spX t i q).1 = To ∧ (spX t i q).2 = Tr := by
  have e := cN6 (t := t) (i := i) (s := r) (by omega)
  rw [e] at h1 h2
  subst hc; subst hq
  exact ⟨by rw [List.append_assoc]; exact h1, h2⟩
theorem cN3 (h : ¬ (512 : Int) < (r.length : Int)) (h1 : o ++ (spX t i r).1 = To) (h2 : (spX t i r).2 = Tr) : o = To ∧ r = Tr := by
  have e := bN8 (t := t) (i := i) (s := r) (by omega)
  rw [e] at h1 h2
  exact ⟨by rw [List.append_nil] at h1; exact h1, h2⟩
end
theorem cV7 {t i : Int} {P : List UInt8 → Prop} (h0 : ∀ s, ¬ 512 < s.length → P s) (h1 : ∀ s, 512 < s.length → P (s.drop 512) → P s) : ∀ s, P s := by
  have h : ∀ (n : Nat) (s : List UInt8), s.length ≤ n → P s := fun n => by
    induction n with
    | zero => exact fun s hs => h0 s (by omega)
    | succ n ih =>
      intro s hs
      by_cases h : 512 < s.length
      · exact h1 s h (ih _ (by rw [List.length_drop]; omega))
      · exact h0 s h
  exact fun s => h s.length s (Nat.le_refl _)
theorem aZ5 {t i : Int} : ∀ s : List UInt8, 512 * (spX t i s).1.length + (spX t i s).2.length = s.length ∧ (spX t i s).2.length ≤ 512 ∧ (s.length = 0 ∨ 1 ≤ (spX t i s).2.length) :=
  cV7 (t := t) (i := i) (fun s h => by rw [bN8 h]; simp only [List.length_nil]; omega) fun s h ih => by
    rw [cN6 h]; rw [List.length_drop] at ih; simp only [List.length_cons]; omega
theorem bN7 (t i : Int) (r : List UInt8) : (r.length = 0 ∧ (tlS t i r).length = 0) ∨ (¬ r.length = 0 ∧ (tlS t i r).length = 1) := by
  unfold tlS; split
  · left; exact ⟨by assumption, rfl⟩
  · right; exact ⟨by assumption, rfl⟩
theorem aH1 {t i : Int} (s : List UInt8) : 1 ≤ (spS t i s).length ∧ (spS t i s).length ≤ s.length + 2 := by
  have := aZ5 (t := t) (i := i) s; have := bN7 t i (spX t i s).2
  unfold spS; simp only [List.length_append, List.length_cons, List.length_nil]; omega
/-- what all records of a row are alike in -/
theorem dJ6 {t i : Int} : ∀ (s : List UInt8) (q : RC), q ∈ (spX t i s).1 → q.1 = t ∧ q.2.1 = i ∧ q.2.2.1.length = 512 ∧ q.2.2.2 = 0 :=
  cV7 (t := t) (i := i) (fun s h q hq => by rw [bN8 h] at hq; cases hq) fun s h ih q hq => by
    rw [cN6 h] at hq
    rcases List.mem_cons.1 hq with rfl | hq
    · exact ⟨rfl, rfl, by show (s.take 512).length = 512; rw [List.length_take]; omega, rfl⟩
    · exact ih q hq
theorem spS_mem {t i : Int} {s : List UInt8} {q : RC} (h : q ∈ spS t i s) : q.1 = t ∧ q.2.1 = i ∧ q.2.2.1.length ≤ 512 ∧ 0 ≤ q.2.2.2 ∧ q.2.2.2 ≤ 7 := by
  unfold spS at h
  rcases List.mem_append.1 h with h | h
  · rcases List.mem_append.1 h with h | h
    · have := dJ6 s q h; exact ⟨this.1, this.2.1, by omega, by omega, by omega⟩
    · unfold tlS at h
      split at h
      · cases h
      · rw [List.mem_singleton.1 h]; have := aZ5 (t := t) (i := i) s; have := dC6 ((spX t i s).2.length : Int); exact ⟨rfl, rfl, by show (spX t i s).2.length ≤ 512; omega, this.1, this.2⟩
  · rw [List.mem_singleton.1 h]; exact ⟨rfl, rfl, by simp, by simp, by simp⟩
section
variable {t i : Int} {s r c q : List UInt8} {o To : List RC}
theorem cV6 : spX t i [] = ([], []) := bN8 (by simp)
theorem tl_go (h : (512 : Int) ≤ (r.length : Int)) (hc : c = r.take 512) (hq : q = r.drop 512) (h1 : o ++ ((spX t i r).1 ++ tlS t i (spX t i r).2) = To) : (o ++ [(t, i, c, 0)]) ++ ((spX t i q).1 ++ tlS t i (spX t i q).2) = To := by
  subst hc; subst hq
  by_cases h5 : 512 < r.length
  · rw [cN6 h5] at h1
    rw [List.append_assoc]; exact h1
  · have h6 : r.length = 512 := by omega
    rw [bN8 h5] at h1
    have e1 : tlS t i r = [(t, i, r, 0)] := by unfold tlS; rw [if_neg (by omega), h6]; rfl
    rw [e1] at h1
    have e2 : r.drop 512 = [] := List.drop_eq_nil_of_le (by omega)
    have e3 : r.take 512 = r := List.take_of_length_le (by omega)
    rw [e2, e3, cV6]
    have e4 : tlS t i [] = [] := rfl
    rw [e4, List.append_nil, List.append_nil]; exact h1
theorem tl_one (h : ¬ (512 : Int) ≤ (r.length : Int)) (h0 : (0 : Int) < (r.length : Int)) (hc : c = r) (hq : q = []) (h1 : o ++ ((spX t i r).1 ++ tlS t i (spX t i r).2) = To) : (o ++ [(t, i, c, pdI (r.length : Int))]) ++ ((spX t i q).1 ++ tlS t i (spX t i q).2) = To := by
  subst hc; subst hq
  rw [bN8 (by omega)] at h1
  have e1 : tlS t i c = [(t, i, c, pdI (c.length : Int))] := by unfold tlS; rw [if_neg (by omega)]
  have e4 : tlS t i [] = [] := rfl
  rw [cV6, e4, List.append_nil, List.append_nil]
  rw [e1] at h1; exact h1
theorem tl_end (h : ¬ (0 : Int) < (r.length : Int)) (h1 : o ++ ((spX t i r).1 ++ tlS t i (spX t i r).2) = To) : o = To := by
  have e : r = [] := List.eq_nil_of_length_eq_zero (by omega)
  subst e
  rw [cV6] at h1
  have e4 : tlS t i [] = [] := rfl
  rw [e4, List.append_nil, List.append_nil] at h1; exact h1
theorem spS_a (h : (spX t i s).1.length = 0) (h2 : ((spX t i s).2.length : Int) = 0) : ([] : List RC) ++ [(t, i, [], 0)] = spS t i s := by
  unfold spS tlS; rw [List.eq_nil_of_length_eq_zero h, if_pos (by omega)]; rfl
theorem spS_b (h : (spX t i s).1.length = 0) (h2 : ¬ ((spX t i s).2.length : Int) = 0) : (([] : List RC) ++ [(t, i, (spX t i s).2, pdI ((spX t i s).2.length : Int))]) ++ [(t, i, [], 0)] = spS t i s := by
  unfold spS tlS; rw [List.eq_nil_of_length_eq_zero h, if_neg (by omega)]
theorem spS_c (h2 : ¬ ((spX t i s).2.length : Int) = 0) : ((spX t i s).1 ++ [(t, i, (spX t i s).2, pdI ((spX t i s).2.length : Int))]) ++ [(t, i, [], 0)] = spS t i s := by
  unfold spS tlS; rw [if_neg (by omega)]
theorem spS_d (h : ((spX t i s).1 ++ tlS t i (spX t i s).2).length = 0) : ([] : List RC) ++ [(t, i, [], 0)] = spS t i s := by
  unfold spS; rw [List.eq_nil_of_length_eq_zero h]
theorem spS_e : ((spX t i s).1 ++ tlS t i (spX t i s).2) ++ [(t, i, [], 0)] = spS t i s := rfl
end
theorem dr5 {r : List UInt8} : List.take (Int.toNat ((r.length : Int) - 512)) (List.drop (Int.toNat 512) r) = r.drop 512 := List.take_of_length_le (by rw [List.length_drop, show Int.toNat 512 = 512 from rfl]; omega)
theorem dJ7 {t i : Int} {s : List UInt8} (h1 : -9223372036854775808 ≤ t) (h2 : t ≤ 9223372036854775807) (h3 : -9223372036854775808 ≤ i) (h4 : i ≤ 9223372036854775807) (q : RC) (hq : q ∈ spS t i s) : reB q := by
  have := spS_mem hq; unfold reB; omega
theorem rw_B {i : Int} {a b c : List UInt8} (h1 : -9223372036854775808 ≤ i) (h2 : i ≤ 9223372036854775807) (hc : c.length ≤ 512) (q : RC) (hq : q ∈ ((([] : List RC) ++ [(1, i, c, 0)]) ++ spS 4 i a) ++ spS 5 i b) : reB q := by
  rcases List.mem_append.1 hq with hq | hq
  · rcases List.mem_append.1 hq with hq | hq
    · rw [List.nil_append] at hq
      rw [List.mem_singleton.1 hq]
      show (-9223372036854775808 ≤ (1 : Int) ∧ (1 : Int) ≤ 9223372036854775807) ∧ (-9223372036854775808 ≤ i ∧ i ≤ 9223372036854775807) ∧ c.length ≤ 9223372036854775807 ∧ (-9223372036854775808 ≤ (0 : Int) ∧ (0 : Int) ≤ 9223372036854775807)
      omega
    · exact dJ7 (by decide) (by decide) h1 h2 q hq
  · exact dJ7 (by decide) (by decide) h1 h2 q hq
end Go.AX
