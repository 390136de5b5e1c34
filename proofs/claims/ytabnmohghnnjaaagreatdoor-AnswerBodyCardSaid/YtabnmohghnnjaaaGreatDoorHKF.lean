/- A part of the proof: an interpreter of the model's own code on partly known states, and that what it answers is what the program answers. No condition of its own. -/
import Derived.Test.YtabnmohghnnjaaaGreatDoorHKE
set_option linter.unusedSimpArgs false
set_option linter.unusedVariables false
namespace Go.AX
open Go.ChangeShapes
/-- the cells of a record: its type, its id, its content, its padding -/
def reC (r : Int × Int × List UInt8 × Int) : List Value := [.int .i64 r.1, .int .i64 r.2.1, St' r.2.2.1, .int .i64 r.2.2.2]
theorem reC_len (r : Int × Int × List UInt8 × Int) : (reC r).length = 4 := rfl
def reOk (r : Int × Int × List UInt8 × Int) : Prop := (Lit.int .i64 r.1).wf = true ∧ (Lit.int .i64 r.2.1).wf = true ∧ r.2.2.1.length ≤ maxLen ∧ (Lit.int .i64 r.2.2.2).wf = true
/-- a slice of records, opened: nil, of no room, or a row -/
theorem in_recs {H : Type} {enc : TypeId × Value → H} {P : Program} {w : World} {held : Bool} {base0 : Nat} {t e : TypeId} {f0 f1 f2 f3 : Field} {a0 : Option Addr} {len0 cap0 : Nat} {d : DataW H} {ps : List MemPlace} (ht : P.underlying t = some (.slice e))
    (he : P.underlying e = some (.struct #[f0, f1, f2, f3])) (ce : P.cellsOf e = 4) (o0 : f0.offset = 0) (o1 : f1.offset = 1) (o2 : f2.offset = 2) (o3 : f3.offset = 3) (c0 : P.cellsOf f0.type = 1) (c1 : P.cellsOf f1.type = 1) (c2 : P.cellsOf f2.type = 1) (c3 : P.cellsOf f3.type = 1)
    (s0 : P.underlying f0.type = some (.int .i64)) (s1 : P.underlying f1.type = some (.int .i64)) (s2 : P.underlying f2.type = some .string) (s3 : P.underlying f3.type = some (.int .i64))
    (h : DataW.Trod enc P w base0 (fun _ => true) held t (.slice a0 len0 cap0) d ps) :
    (.slice a0 len0 cap0 : Value) = .slice none 0 0 ∨ (∃ a, (.slice a0 len0 cap0 : Value) = .slice (some a) 0 0) ∨ ∃ (blk base es : Nat) (l : List (Int × Int × List UInt8 × Int)), (.slice a0 len0 cap0 : Value) = .slice (some ⟨blk, base, none⟩) l.length es ∧
      (∀ p, p ∈ l → reOk p) ∧ l.length ≤ maxLen ∧ l.length ≤ es ∧
      ∃ arr tt fz, w.heap[blk]? = some (.cells arr tt fz) ∧ (∃ s, arr[base]? = some (.int .i64 s)) ∧ ∀ (j : Nat) (x : Value), (l.flatMap reC)[j]? = some x → arr[base + j]? = some x ∧ x.oneCell' = true := by
  obtain ⟨n, hn⟩ := h
  rcases Go.Deep.open_slice ht hn with ⟨e1, _⟩ | ⟨a, len, cap, m, n', D, Pl, e1, hb, hlc, hcm, hm, _, hx⟩
  · left; simpa [Value.cells] using e1
  · right
    have e1 : (.slice a0 len0 cap0 : Value) = .slice (some a) len cap := by simpa [Value.cells] using e1
    rw [e1]
    have hm : m = cap := by simpa using hm
    subst hm
    by_cases h0 : m = 0
    · left; subst h0; obtain rfl : len = 0 := by omega
      exact ⟨a, rfl⟩
    · right
      have str : ∀ {k : Nat} {u : TypeId} {V : Value} {y : DataW H × List MemPlace}, P.underlying u = some .string → DataW.trod enc P w base0 (fun _ => true) held k u [V] = some y → ∃ l : List UInt8, V = St' l ∧ l.length ≤ maxLen := fun {k u V y} hu hq => by
        obtain ⟨s, q1, _, q3⟩ := DataW.trod_string hu hq
        simp at q1
        subst q1
        exact ⟨s.data.toList, by cases s; rfl, by rw [Array.length_toList]; exact q3⟩
      have int : ∀ {k : Nat} {u : TypeId} {V : Value} {y : DataW H × List MemPlace}, P.underlying u = some (.int .i64) → DataW.trod enc P w base0 (fun _ => true) held k u [V] = some y → ∃ z : Int, V = .int .i64 z ∧ (Lit.int .i64 z).wf = true := fun {k u V y} hu hq => by
        obtain ⟨z, q1, _, q3⟩ := DataW.trod_int hu hq
        simp at q1
        exact ⟨z, q1, q3⟩
      have hs : ∀ i, ∃ p : Int × Int × List UInt8 × Int, i < m → (∀ (q : Nat) (x : Value), (reC p)[q]? = some x → w.cell? (a.add (i * 4 + q)) = some x) ∧ reOk p := fun i => by
        by_cases hi : i < m
        · obtain ⟨cs', h1, h2⟩ := hx i hi
          rw [ce] at h1
          obtain ⟨_, hlen, hcell⟩ := World.cells?_some h1
          obtain ⟨xs, k, _, _, _, hxl, hf⟩ := DataW.trod_struct he h2
          match xs, hxl, cs', hlen with
          | [y0, y1, y2, y3], _, [v0, v1, v2, v3], _ =>
            have g0 := hf 0 f0 rfl
            have g1 := hf 1 f1 rfl
            have g2 := hf 2 f2 rfl
            have g3 := hf 3 f3 rfl
            simp [o0, o1, o2, o3, c0, c1, c2, c3] at g0 g1 g2 g3
            obtain ⟨z0, rfl, w0⟩ := int s0 g0
            obtain ⟨z1, rfl, w1⟩ := int s1 g1
            obtain ⟨l2, rfl, w2⟩ := str s2 g2
            obtain ⟨z3, rfl, w3⟩ := int s3 g3
            refine ⟨(z0, z1, l2, z3), fun _ => ⟨fun q x hq => ?_, w0, w1, w2, w3⟩⟩
            have hq4 : q < 4 := (List.getElem?_eq_some_iff.1 hq).1
            have hc := hcell q (by simpa using hq4)
            have ea : (a.add (i * 4)).add q = a.add (i * 4 + q) := Go.Deep.add_add _ _ _
            rw [ea] at hc
            rw [hc]
            exact hq
        · exact ⟨(0, 0, [], 0), fun h => absurd h hi⟩
      have ⟨g, hg⟩ := Classical.axiomOfChoice hs
      have cc := (hg 0 (by omega)).1 0 _ rfl
      have ea : a.add (0 * 4 + 0) = a := by simp [Addr.add]
      rw [ea] at cc
      unfold World.cell? at cc
      cases hh : w.heap[a.block]? with
      | none => rw [hh] at cc; cases cc
      | some o =>
        rw [hh] at cc
        cases o with
        | cells arr tt fz =>
          simp only [] at cc
          cases hsp : a.spot with
          | some q => rw [hsp] at cc; simp at cc
          | none =>
            obtain ⟨blk, base, sp⟩ := a
            simp only [] at hsp; subst hsp
            have cell : ∀ (q : Nat) (x : Value), w.cell? (Addr.add ⟨blk, base, none⟩ q) = some x → arr[base + q]? = some x := fun q x hq => by
              unfold World.cell? at hq
              have eb : (Addr.add ⟨blk, base, none⟩ q).block = blk := block_add _ _
              rw [eb, hh] at hq
              simp only [] at hq
              by_cases hq0 : q = 0
              · subst hq0; simpa [Addr.add] using hq
              · simpa [Addr.add, hq0] using hq
            refine ⟨blk, base, m, (List.range len).map g, by simp, fun p hp => ?_, by simp; omega, by simp; omega, arr, tt, fz, hh, ⟨_, by simpa using cc⟩, fun j x hj => ?_⟩
            · obtain ⟨i, hi, rfl⟩ := List.mem_map.1 hp
              have hi := List.mem_range.1 hi
              exact (hg i (by omega)).2
            · have hd : j = (j / 4) * 4 + j % 4 := by omega
              rw [hd, flat_get reC_len (by omega)] at hj
              cases hq : ((List.range len).map g)[j / 4]? with
              | none => rw [hq] at hj; cases hj
              | some p =>
                rw [hq] at hj
                obtain ⟨hlt, rfl⟩ := range_get hq
                have hi := (hg (j / 4) (by omega)).1 (j % 4) x hj
                refine ⟨by rw [show base + j = base + (j / 4 * 4 + j % 4) by omega]; exact cell _ _ hi, ?_⟩
                have hj : (reC (g (j / 4)))[j % 4]? = some x := hj
                have hmem := List.mem_of_getElem? hj
                simp only [reC, List.mem_cons, List.not_mem_nil, or_false] at hmem
                rcases hmem with rfl | rfl | rfl | rfl <;> rfl
        | _ => cases cc
end Go.AX
