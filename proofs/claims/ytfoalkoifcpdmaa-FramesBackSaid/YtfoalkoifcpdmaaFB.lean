/- A part of the proof: an interpreter of the model's own code on partly known states, and that what it answers is what the program answers. No condition of its own. -/
import Derived.Test.YtfoalkoifcpdmaaFR
set_option linter.unusedSimpArgs false
set_option linter.unusedVariables false
namespace Go.AX
/- records' contents put together are what was cut -/
def ctS (l : List RC) : List UInt8 := l.flatMap (fun r => r.2.2.1)
theorem cK7 (a b : List RC) : ctS (a ++ b) = ctS a ++ ctS b := List.flatMap_append
theorem dP6 (r : RC) : ctS [r] = r.2.2.1 := List.append_nil _
theorem ctS_nil : ctS [] = [] := rfl
theorem ct_spX {t i : Int} : ∀ s : List UInt8, ctS (spX t i s).1 ++ (spX t i s).2 = s :=
  cV7 (t := t) (i := i) (fun s h => by rw [bN8 h]; rfl) fun s h ih => by
    rw [cN6 h]
    show (s.take 512 ++ ctS (spX t i (s.drop 512)).1) ++ (spX t i (s.drop 512)).2 = s
    rw [List.append_assoc, ih, List.take_append_drop]
theorem ct_tlS (t i : Int) (r : List UInt8) : ctS (tlS t i r) = r := by
  unfold tlS; split
  · rename_i h; rw [List.eq_nil_of_length_eq_zero h]; rfl
  · exact dP6 _
theorem ct_spS {t i : Int} (s : List UInt8) : ctS (spS t i s) = s := by
  unfold spS
  rw [cK7, cK7, ct_tlS, ct_spX]
  show s ++ [] = s
  exact List.append_nil _
def gR (t i : Int) (q : RC) : Prop := q.1 = t ∧ q.2.1 = i ∧ q.2.2.1.length ≤ 512 ∧ 0 ≤ q.2.2.2 ∧ q.2.2.2 ≤ 7 ∧ ((q.2.2.1.length : Int) + q.2.2.2) % 8 = 0
theorem spM_good {t i : Int} {s : List UInt8} {q : RC} (h : q ∈ (spX t i s).1 ++ tlS t i (spX t i s).2) : gR t i q ∧ 1 ≤ q.2.2.1.length := by
  rcases List.mem_append.1 h with h | h
  · have := dJ6 s q h; unfold gR; omega
  · unfold tlS at h
    split at h
    · cases h
    · rw [List.mem_singleton.1 h]; have := aZ5 (t := t) (i := i) s; have := dC6 ((spX t i s).2.length : Int)
      refine ⟨⟨rfl, rfl, ?_, ?_, ?_, ?_⟩, ?_⟩
      · show (spX t i s).2.length ≤ 512; omega
      · exact this.1
      · exact this.2
      · show (((spX t i s).2.length : Int) + pdI ((spX t i s).2.length : Int)) % 8 = 0
        unfold pdI; omega
      · show 1 ≤ (spX t i s).2.length; omega
theorem nth_l {a b : List RC} {j : Nat} (h : j < a.length) : nthR (a ++ b) j = nthR a j := by
  rw [nthR, nthR, List.getD_eq_getElem?_getD, List.getD_eq_getElem?_getD, List.getElem?_append_left h]
theorem nth_r {a b : List RC} {j : Nat} (h : a.length ≤ j) : nthR (a ++ b) j = nthR b (j - a.length) := by
  rw [nthR, nthR, List.getD_eq_getElem?_getD, List.getD_eq_getElem?_getD, List.getElem?_append_right h]
theorem nth_mem {a : List RC} {j : Nat} (h : j < a.length) : nthR a j ∈ a := by
  rw [nthR, List.getD_eq_getElem?_getD, List.getElem?_eq_getElem h]; exact List.getElem_mem h
theorem dJ8 {t i : Int} {s : List UInt8} {j : Nat} (h : j < (spS t i s).length) : gR t i (nthR (spS t i s) j) ∧ ((nthR (spS t i s) j).2.2.1.length = 0 ↔ j + 1 = (spS t i s).length) := by
  have hl : (spS t i s).length = ((spX t i s).1 ++ tlS t i (spX t i s).2).length + 1 := by unfold spS; rw [List.length_append]; rfl
  rcases Nat.lt_or_ge j ((spX t i s).1 ++ tlS t i (spX t i s).2).length with h1 | h1
  · have e : nthR (spS t i s) j = nthR ((spX t i s).1 ++ tlS t i (spX t i s).2) j := nth_l h1
    have hm := spM_good (nth_mem h1)
    rw [e]
    exact ⟨hm.1, by omega⟩
  · have h2 : j = ((spX t i s).1 ++ tlS t i (spX t i s).2).length := by omega
    have e : nthR (spS t i s) j = (t, i, [], 0) := by
      unfold spS; rw [nth_r h1, h2, Nat.sub_self]; rfl
    rw [e]
    exact ⟨⟨rfl, rfl, by simp, by simp, by simp, by simp⟩, by simp; omega⟩
def rwF (i : Int) (P B : List UInt8) : List RC := ((([] : List RC) ++ [(1, i, [u8 0, u8 1, u8 1, u8 0, u8 0, u8 0, u8 0, u8 0], 0)]) ++ spS 4 i P) ++ spS 5 i B
section
variable {i iq : Int} {P B : List UInt8}
theorem aL8 : ((rwF iq P B).length : Int) = 1 + ((spS 4 iq P).length : Int) + ((spS 5 iq B).length : Int) := by
  unfold rwF; rw [List.length_append, List.length_append, List.length_append]; simp only [List.length_cons, List.length_nil]; omega
theorem fr_0 : nthR (rwF iq P B) 0 = (1, iq, [u8 0, u8 1, u8 1, u8 0, u8 0, u8 0, u8 0, u8 0], 0) := by
  unfold rwF
  rw [nth_l (by simp), nth_l (by simp)]; rfl
theorem fr_1 (h : 1 ≤ i) (h1 : i < 1 + ((spS 4 iq P).length : Int)) : nthR (rwF iq P B) i.toNat = nthR (spS 4 iq P) (i - 1).toNat := by
  unfold rwF
  rw [nth_l (by simp only [List.length_append, List.length_cons, List.length_nil]; omega), nth_r (by simp only [List.length_append, List.length_cons, List.length_nil]; omega)]
  congr 1; simp only [List.length_append, List.length_cons, List.length_nil]; omega
theorem fr_2 (h : 1 + ((spS 4 iq P).length : Int) ≤ i) : nthR (rwF iq P B) i.toNat = nthR (spS 5 iq B) (i - 1 - ((spS 4 iq P).length : Int)).toNat := by
  unfold rwF
  rw [nth_r (by simp only [List.length_append, List.length_cons, List.length_nil]; omega)]
  congr 1; simp only [List.length_append, List.length_cons, List.length_nil]; omega
theorem cS9 (h0 : 0 ≤ i) (h1 : i < ((rwF iq P B).length : Int)) :
    ((nthR (rwF iq P B) i.toNat).2.1 = iq ∧ (nthR (rwF iq P B) i.toNat).2.2.1.length ≤ 512 ∧ 0 ≤ (nthR (rwF iq P B) i.toNat).2.2.2 ∧ (nthR (rwF iq P B) i.toNat).2.2.2 ≤ 7 ∧ (((nthR (rwF iq P B) i.toNat).2.2.1.length : Int) + (nthR (rwF iq P B) i.toNat).2.2.2) % 8 = 0) ∧
    ((i = 0 ∧ (nthR (rwF iq P B) i.toNat).1 = 1 ∧ (nthR (rwF iq P B) i.toNat).2.2.1.length = 8) ∨
     (1 ≤ i ∧ i < 1 + ((spS 4 iq P).length : Int) ∧ (nthR (rwF iq P B) i.toNat).1 = 4 ∧ ((nthR (rwF iq P B) i.toNat).2.2.1.length = 0 ↔ i = ((spS 4 iq P).length : Int))) ∨
     (1 + ((spS 4 iq P).length : Int) ≤ i ∧ (nthR (rwF iq P B) i.toNat).1 = 5 ∧ ((nthR (rwF iq P B) i.toNat).2.2.1.length = 0 ↔ i = ((spS 4 iq P).length : Int) + ((spS 5 iq B).length : Int)))) := by
  rw [aL8] at h1
  by_cases c0 : i = 0
  · subst c0
    rw [show Int.toNat 0 = 0 from rfl, fr_0]
    exact ⟨⟨rfl, by simp, by simp, by simp, by simp⟩, .inl ⟨rfl, rfl, rfl⟩⟩
  by_cases c1 : i < 1 + ((spS 4 iq P).length : Int)
  · rw [fr_1 (by omega) c1]
    obtain ⟨⟨g1, g2, g3, g4, g5, g6⟩, g7⟩ := dJ8 (t := 4) (i := iq) (s := P) (j := (i - 1).toNat) (by omega)
    exact ⟨⟨g2, g3, g4, g5, g6⟩, .inr (.inl ⟨by omega, c1, g1, by omega⟩)⟩
  · rw [fr_2 (by omega)]
    obtain ⟨⟨g1, g2, g3, g4, g5, g6⟩, g7⟩ := dJ8 (t := 5) (i := iq) (s := B) (j := (i - 1 - ((spS 4 iq P).length : Int)).toNat) (by omega)
    exact ⟨⟨g2, g3, g4, g5, g6⟩, .inr (.inr ⟨by omega, g1, by omega⟩)⟩
theorem dP5 {l : List RC} {j : Int} (h0 : 0 ≤ j) (h1 : j < (l.length : Int)) : ctS (l.take j.toNat) ++ (nthR l j.toNat).2.2.1 = ctS (l.take (j + 1).toNat) := by
  rw [takeR h0 h1, cK7, dP6]
theorem aD8 {t i : Int} {s : List UInt8} {j : Nat} : (ctS ((spS t i s).take j)).length ≤ s.length := by
  have e := congrArg ctS (List.take_append_drop j (spS t i s))
  rw [cK7, ct_spS] at e
  have := congrArg List.length e
  rw [List.length_append] at this; omega
theorem fr_p (h : 1 ≤ i) (h1 : i < 1 + ((spS 4 iq P).length : Int)) {p : List UInt8} (hp : p = ctS ((spS 4 iq P).take (Int.toNat (i - 1)))) : p ++ (nthR (rwF iq P B) (Int.toNat i)).2.2.1 = ctS ((spS 4 iq P).take (Int.toNat (i + 1 - 1))) := by
  rw [hp, fr_1 h h1, dP5 (by omega) (by omega)]; congr 3; omega
theorem fr_s (h : 1 + ((spS 4 iq P).length : Int) ≤ i) (h1 : i < ((rwF iq P B).length : Int)) {p : List UInt8} (hp : p = ctS ((spS 5 iq B).take (Int.toNat (i - 1 - ((spS 4 iq P).length : Int))))) : p ++ (nthR (rwF iq P B) (Int.toNat i)).2.2.1 = ctS ((spS 5 iq B).take (Int.toNat (i + 1 - 1 - ((spS 4 iq P).length : Int)))) := by
  rw [aL8] at h1
  rw [hp, fr_2 h, dP5 (by omega) (by omega)]; congr 3; omega
theorem bF6 {l : List RC} {j k : Int} {p : List UInt8} (hp : p = ctS (l.take (Int.toNat j))) (h : Int.toNat j = Int.toNat k ∨ ((l.length : Int) ≤ j ∧ (l.length : Int) ≤ k)) : p = ctS (l.take (Int.toNat k)) := by
  rcases h with h | ⟨h, h2⟩
  · rw [← h]; exact hp
  · rw [List.take_of_length_le (by omega)] at hp ⊢; exact hp
theorem fr_end {t : Int} {s p : List UInt8} {j : Int} (hp : p = ctS ((spS t iq s).take (Int.toNat j))) (h : ((spS t iq s).length : Int) ≤ j) : p = s := by
  rw [List.take_of_length_le (by omega), ct_spS] at hp; exact hp
end
theorem dK2 {i : Int} {P B : List UInt8} (h1 : -9223372036854775808 ≤ i) (h2 : i ≤ 9223372036854775807) : ∀ q, q ∈ rwF i P B → reB q := fun q hq => rw_B h1 h2 (by decide) q hq
theorem fr_st {l : List RC} {j : Int} (h : j ≤ 0) : ([] : List UInt8) = ctS (l.take (Int.toNat j)) := by rw [show Int.toNat j = 0 by omega]; rfl
/- pairs read back -/
theorem pk_of {s : List UInt8} (h0 : ¬ s.length = 0) (h : (prS s).2 = 0) : pkW s := by
  by_cases h1 : pkW s
  · exact h1
  · rw [bP3 h0 h1] at h; exact absurd h (by decide)
end Go.AX
