/- A part of the proof: what an interpreter answers on partly known states is what the program answers. No condition. -/
import Derived.Test.YtjkdkpdjmapieaaDoorHKE
set_option linter.unusedSimpArgs false
set_option linter.unusedVariables false
namespace Go.AX
open Go.ChangeShapes
theorem weightsAll_mem {H : Type} {P : Program} {e : TypeId} {x : DataW H} {n : Nat} : ∀ {l : List (DataW H)}, x ∈ l → n ∈ x.weights P e → n ∈ DataW.weightsAll P e l
  | y :: l, h, hn => by
    unfold DataW.weightsAll
    rcases List.mem_cons.1 h with rfl | h
    · exact List.mem_append_left _ hn
    · exact List.mem_append_right _ (weightsAll_mem h hn)
theorem in_pairs_w {H : Type} {enc : TypeId × Value → H} {P : Program} {w : World} {held : Bool} {base0 : Nat} {t e : TypeId} {f0 f1 : Field} {a0 : Option Addr} {len0 cap0 : Nat} {d : DataW H} {ps : List MemPlace} (ht : P.underlying t = some (.slice e))
    (he : P.underlying e = some (.struct #[f0, f1])) (ce : P.cellsOf e = 2) (o0 : f0.offset = 0) (o1 : f1.offset = 1) (c0 : P.cellsOf f0.type = 1) (c1 : P.cellsOf f1.type = 1) (s0 : P.underlying f0.type = some .string) (s1 : P.underlying f1.type = some .string)
    {N : Nat} (hw : ∀ x, x ∈ d.weights P t → x ≤ N) (h : DataW.Trod enc P w base0 (fun _ => true) held t (.slice a0 len0 cap0) d ps) :
    (.slice a0 len0 cap0 : Value) = .slice none 0 0 ∨ (∃ a, (.slice a0 len0 cap0 : Value) = .slice (some a) 0 0) ∨ ∃ (blk base es : Nat) (l : List (List UInt8 × List UInt8)), (.slice a0 len0 cap0 : Value) = .slice (some ⟨blk, base, none⟩) l.length es ∧
      (∀ p, p ∈ l → p.1.length ≤ N ∧ p.2.length ≤ N) ∧ l.length ≤ maxLen ∧ l.length ≤ es ∧
      ∃ arr tt fz, w.heap[blk]? = some (.cells arr tt fz) ∧ (∃ s, arr[base]? = some (.string s)) ∧ ∀ (j : Nat) (x : Value), (l.flatMap aK)[j]? = some x → arr[base + j]? = some x ∧ x.oneCell' = true := by
  obtain ⟨n, hn⟩ := h
  rcases Go.Deep.open_slice_pairs ht he ce o0 o1 c0 c1 hn with ⟨e1, _⟩ | ⟨a, len, cap, m, n', V0, V1, D0, D1, P0, P1, e1, hb, hlc, hcm, hm, hd, hx⟩
  · left; simpa [Value.cells] using e1
  · right
    have e1 : (.slice a0 len0 cap0 : Value) = .slice (some a) len cap := by simpa [Value.cells] using e1
    rw [e1]
    have hm : m = cap := by simpa using hm
    subst hm
    by_cases h0 : m = 0
    · left; subst h0; obtain rfl : len = 0 := by omega
      exact ⟨a, rfl⟩
    · right
      have str : ∀ {u : TypeId} {V : Value} {D : DataW H} {p : List MemPlace}, P.underlying u = some .string → DataW.trod enc P w base0 (fun _ => true) held n' u [V] = some (D, p) → ∃ l : List UInt8, V = St' l ∧ D = .lit (.string l) := fun {u V D p} hu hq => by
        obtain ⟨s, q1, q2, q3⟩ := DataW.trod_string hu hq
        simp at q1
        subst q1
        exact ⟨s.data.toList, by cases s; rfl, (Prod.mk.inj q2).1⟩
      have hs : ∀ i, ∃ p : List UInt8 × List UInt8, i < m → w.cell? (a.add (i * 2)) = some (St' p.1) ∧ w.cell? (a.add (i * 2 + 1)) = some (St' p.2) ∧ D0 i = .lit (.string p.1) ∧ D1 i = .lit (.string p.2) := fun i => by
        by_cases hi : i < m
        · obtain ⟨q1, q2, q3, q4⟩ := hx i hi
          obtain ⟨l0, r1, r2⟩ := str s0 q3
          obtain ⟨l1, r3, r4⟩ := str s1 q4
          exact ⟨(l0, l1), fun _ => ⟨by rw [q1, r1], by rw [q2, r3], r2, r4⟩⟩
        · exact ⟨([], []), fun h => absurd h hi⟩
      have ⟨g, hg⟩ := Classical.axiomOfChoice hs
      have cc := (hg 0 (by omega)).1
      have ea : a.add (0 * 2) = a := by simp [Addr.add]
      rw [ea] at cc
      unfold World.cell? at cc
      cases hh : w.heap[a.block]? with
      | none => rw [hh] at cc; cases cc
      | some o =>
        rw [hh] at cc
        cases o with
        | cells arr tt fz =>
          simp only [] at cc
          cases hsp : a.spot with
          | some q => rw [hsp] at cc; simp at cc
          | none =>
            obtain ⟨blk, base, sp⟩ := a
            simp only [] at hsp; subst hsp
            have cell : ∀ (q : Nat) (x : Value), w.cell? (Addr.add ⟨blk, base, none⟩ q) = some x → arr[base + q]? = some x := fun q x hq => by
              unfold World.cell? at hq
              have eb : (Addr.add ⟨blk, base, none⟩ q).block = blk := block_add _ _
              rw [eb, hh] at hq
              simp only [] at hq
              by_cases hq0 : q = 0
              · subst hq0; simpa [Addr.add] using hq
              · simpa [Addr.add, hq0] using hq
            refine ⟨blk, base, m, (List.range len).map g, by simp, fun p hp => ?_, by simp; omega, by simp; omega, arr, tt, fz, hh, ⟨_, by simpa using cc⟩, fun j x hj => ?_⟩
            · obtain ⟨i, hi, rfl⟩ := List.mem_map.1 hp
              have hi := List.mem_range.1 hi
              have hd' : d = .slice ((List.range len).map fun i => .agg [D0 i, D1 i]) ((List.range (m - len)).map fun j => .agg [D0 (len + j), D1 (len + j)]) := (Prod.mk.inj hd).1
              have hq := (hg i (by omega)).2.2
              have key : ∀ n, n = (g i).1.length ∨ n = (g i).2.length → n ≤ N := fun n hn => by
                refine hw n ?_
                rw [hd']
                unfold DataW.weights
                rw [ht]
                refine List.mem_cons_of_mem _ (List.mem_append_left _ (weightsAll_mem (x := .agg [D0 i, D1 i]) (List.mem_map.2 ⟨i, List.mem_range.2 hi, rfl⟩) ?_))
                unfold DataW.weights
                rw [he]
                simp only [hq.1, hq.2, List.map_cons, List.map_nil]
                unfold DataW.weightsEach DataW.weightsEach DataW.weightsEach DataW.weights
                rcases hn with rfl | rfl <;> simp
              exact ⟨key _ (.inl rfl), key _ (.inr rfl)⟩
            · have hd : j = (j / 2) * 2 + j % 2 := by omega
              rw [hd, flat_get a7 (by omega)] at hj
              cases hq : ((List.range len).map g)[j / 2]? with
              | none => rw [hq] at hj; cases hj
              | some p =>
                rw [hq] at hj
                obtain ⟨hlt, rfl⟩ := range_get hq
                have hi := hg (j / 2) (by omega)
                rcases (by omega : j % 2 = 0 ∨ j % 2 = 1) with hz | hz
                · rw [hz] at hj
                  simp only [aK, Option.bind_some, List.getElem?_cons_zero, Option.some.injEq] at hj
                  subst hj
                  exact ⟨by rw [show base + j = base + j / 2 * 2 by omega]; exact cell _ _ hi.1, rfl⟩
                · rw [hz] at hj
                  simp [aK] at hj
                  subst hj
                  exact ⟨by rw [show base + j = base + (j / 2 * 2 + 1) by omega]; exact cell _ _ hi.2.1, rfl⟩
        | _ => cases cc
end Go.AX

