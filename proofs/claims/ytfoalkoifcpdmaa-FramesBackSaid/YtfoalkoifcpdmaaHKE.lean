/- A part of the proof: an interpreter of the model's own code on partly known states, and that what it answers is what the program answers. No condition of its own. -/
import Derived.Test.YtfoalkoifcpdmaaHKD
import Derived.Test.YtfoalkoifcpdmaaHKC
import Derived.Deep.SlicePairs
set_option linter.unusedSimpArgs false
set_option linter.unusedVariables false
namespace Go.AX
open Go.ChangeShapes
def prC (p : List UInt8 × List UInt8) : List Value := [St' p.1, St' p.2]
theorem aD6 (p : List UInt8 × List UInt8) : (prC p).length = 2 := rfl
theorem range_get {α : Type} {f : Nat → α} {n j : Nat} {x : α} (h : ((List.range n).map f)[j]? = some x) : j < n ∧ x = f j := by
  rw [List.getElem?_map] at h
  cases hr : (List.range n)[j]? with
  | none => rw [hr] at h; cases h
  | some m =>
    rw [hr] at h
    obtain ⟨hlt, e⟩ := List.getElem?_eq_some_iff.1 hr
    simp at hlt e
    subst e
    simp at h
    exact ⟨hlt, h.symm⟩
theorem in_pairs {H : Type} {enc : TypeId × Value → H} {P : Program} {w : World} {held : Bool} {base0 : Nat} {t e : TypeId} {f0 f1 : Field} {a0 : Option Addr} {len0 cap0 : Nat} {d : DataW H} {ps : List MemPlace} (ht : P.underlying t = some (.slice e))
    (he : P.underlying e = some (.struct #[f0, f1])) (ce : P.cellsOf e = 2) (o0 : f0.offset = 0) (o1 : f1.offset = 1) (c0 : P.cellsOf f0.type = 1) (c1 : P.cellsOf f1.type = 1) (s0 : P.underlying f0.type = some .string) (s1 : P.underlying f1.type = some .string)
    (h : DataW.Trod enc P w base0 (fun _ => true) held t (.slice a0 len0 cap0) d ps) :
    (.slice a0 len0 cap0 : Value) = .slice none 0 0 ∨ (∃ a, (.slice a0 len0 cap0 : Value) = .slice (some a) 0 0) ∨ ∃ (blk base es : Nat) (l : List (List UInt8 × List UInt8)), (.slice a0 len0 cap0 : Value) = .slice (some ⟨blk, base, none⟩) l.length es ∧
      (∀ p, p ∈ l → p.1.length ≤ maxLen ∧ p.2.length ≤ maxLen) ∧ l.length ≤ maxLen ∧ l.length ≤ es ∧
      ∃ arr tt fz, w.heap[blk]? = some (.cells arr tt fz) ∧ (∃ s, arr[base]? = some (.string s)) ∧ ∀ (j : Nat) (x : Value), (l.flatMap prC)[j]? = some x → arr[base + j]? = some x ∧ x.oneCell' = true := by
  obtain ⟨n, hn⟩ := h
  rcases Go.Deep.open_slice_pairs ht he ce o0 o1 c0 c1 hn with ⟨e1, _⟩ | ⟨a, len, cap, m, n', V0, V1, D0, D1, P0, P1, e1, hb, hlc, hcm, hm, _, hx⟩
  · left; simpa [Value.cells] using e1
  · right
    have e1 : (.slice a0 len0 cap0 : Value) = .slice (some a) len cap := by simpa [Value.cells] using e1
    rw [e1]
    have hm : m = cap := by simpa using hm
    subst hm
    by_cases h0 : m = 0
    · left; subst h0; obtain rfl : len = 0 := by omega
      exact ⟨a, rfl⟩
    · right
      have str : ∀ {u : TypeId} {V : Value} {D : DataW H} {p : List MemPlace}, P.underlying u = some .string → DataW.trod enc P w base0 (fun _ => true) held n' u [V] = some (D, p) → ∃ l : List UInt8, V = St' l ∧ l.length ≤ maxLen := fun {u V D p} hu hq => by
        obtain ⟨s, q1, _, q3⟩ := DataW.trod_string hu hq
        simp at q1
        subst q1
        exact ⟨s.data.toList, by cases s; rfl, by rw [Array.length_toList]; exact q3⟩
      have hs : ∀ i, ∃ p : List UInt8 × List UInt8, i < m → w.cell? (a.add (i * 2)) = some (St' p.1) ∧ w.cell? (a.add (i * 2 + 1)) = some (St' p.2) ∧ p.1.length ≤ maxLen ∧ p.2.length ≤ maxLen := fun i => by
        by_cases hi : i < m
        · obtain ⟨q1, q2, q3, q4⟩ := hx i hi
          obtain ⟨l0, r1, r2⟩ := str s0 q3
          obtain ⟨l1, r3, r4⟩ := str s1 q4
          exact ⟨(l0, l1), fun _ => ⟨by rw [q1, r1], by rw [q2, r3], r2, r4⟩⟩
        · exact ⟨([], []), fun h => absurd h hi⟩
      have ⟨g, hg⟩ := Classical.axiomOfChoice hs
      have cc := (hg 0 (by omega)).1
      have ea : a.add (0 * 2) = a := by simp [Addr.add]
      rw [ea] at cc
      unfold World.cell? at cc
      cases hh : w.heap[a.block]? with
      | none => rw [hh] at cc; cases cc
      | some o =>
        rw [hh] at cc
        cases o with
        | cells arr tt fz =>
          simp only [] at cc
          cases hsp : a.spot with
          | some q => rw [hsp] at cc; simp at cc
          | none =>
            obtain ⟨blk, base, sp⟩ := a
            simp only [] at hsp; subst hsp
            have cell : ∀ (q : Nat) (x : Value), w.cell? (Addr.add ⟨blk, base, none⟩ q) = some x → arr[base + q]? = some x := fun q x hq => by
              unfold World.cell? at hq
              have eb : (Addr.add ⟨blk, base, none⟩ q).block = blk := block_add _ _
              rw [eb, hh] at hq
              simp only [] at hq
              by_cases hq0 : q = 0
              · subst hq0; simpa [Addr.add] using hq
              · simpa [Addr.add, hq0] using hq
            refine ⟨blk, base, m, (List.range len).map g, by simp, fun p hp => ?_, by simp; omega, by simp; omega, arr, tt, fz, hh, ⟨_, by simpa using cc⟩, fun j x hj => ?_⟩
            · obtain ⟨i, hi, rfl⟩ := List.mem_map.1 hp
              have hi := List.mem_range.1 hi
              exact (hg i (by omega)).2.2
            · have hd : j = (j / 2) * 2 + j % 2 := by omega
              rw [hd, flat_get aD6 (by omega)] at hj
              cases hq : ((List.range len).map g)[j / 2]? with
              | none => rw [hq] at hj; cases hj
              | some p =>
                rw [hq] at hj
                obtain ⟨hlt, rfl⟩ := range_get hq
                have hi := hg (j / 2) (by omega)
                rcases (by omega : j % 2 = 0 ∨ j % 2 = 1) with hz | hz
                · rw [hz] at hj
                  simp only [prC, Option.bind_some, List.getElem?_cons_zero, Option.some.injEq] at hj
                  subst hj
                  exact ⟨by rw [show base + j = base + j / 2 * 2 by omega]; exact cell _ _ hi.1, rfl⟩
                · rw [hz] at hj
                  simp [prC] at hj
                  subst hj
                  exact ⟨by rw [show base + j = base + (j / 2 * 2 + 1) by omega]; exact cell _ _ hi.2.1, rfl⟩
        | _ => cases cc
end Go.AX

