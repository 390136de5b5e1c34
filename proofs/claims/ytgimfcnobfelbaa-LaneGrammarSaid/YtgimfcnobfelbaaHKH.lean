/- A part of the proof: an interpreter of the model's own code on partly known states, and that what it answers is what the program answers. No condition of its own. -/
import Derived.Test.YtgimfcnobfelbaaHKF
set_option linter.unusedSimpArgs false
set_option linter.unusedVariables false
namespace Go.AX
open Go.ChangeShapes
/-- the cells of a step: what it is, and a record's -/
def stC (r : Int × Int × Int × List UInt8 × Int) : List Value := [.int .i64 r.1, .int .i64 r.2.1, .int .i64 r.2.2.1, St' r.2.2.2.1, .int .i64 r.2.2.2.2]
theorem stC_len (r : Int × Int × Int × List UInt8 × Int) : (stC r).length = 5 := rfl
def stOk (r : Int × Int × Int × List UInt8 × Int) : Prop := (Lit.int .i64 r.1).wf = true ∧ (Lit.int .i64 r.2.1).wf = true ∧ (Lit.int .i64 r.2.2.1).wf = true ∧ r.2.2.2.1.length ≤ maxLen ∧ (Lit.int .i64 r.2.2.2.2).wf = true
/-- a slice of steps, opened: nil, of no room, or a row -/
theorem in_steps {H : Type} {enc : TypeId × Value → H} {P : Program} {w : World} {held : Bool} {base0 : Nat} {t e : TypeId} {g0 g1 f0 f1 f2 f3 : Field} {a0 : Option Addr} {len0 cap0 : Nat} {d : DataW H} {ps : List MemPlace} (ht : P.underlying t = some (.slice e))
    (he : P.underlying e = some (.struct #[g0, g1])) (ce : P.cellsOf e = 5) (p0 : g0.offset = 0) (p1 : g1.offset = 1) (d0 : P.cellsOf g0.type = 1) (d1 : P.cellsOf g1.type = 4) (t0 : P.underlying g0.type = some (.int .i64)) (t1 : P.underlying g1.type = some (.struct #[f0, f1, f2, f3])) (o0 : f0.offset = 0) (o1 : f1.offset = 1) (o2 : f2.offset = 2) (o3 : f3.offset = 3) (c0 : P.cellsOf f0.type = 1) (c1 : P.cellsOf f1.type = 1) (c2 : P.cellsOf f2.type = 1) (c3 : P.cellsOf f3.type = 1)
    (s0 : P.underlying f0.type = some (.int .i64)) (s1 : P.underlying f1.type = some (.int .i64)) (s2 : P.underlying f2.type = some .string) (s3 : P.underlying f3.type = some (.int .i64))
    (h : DataW.Trod enc P w base0 (fun _ => true) held t (.slice a0 len0 cap0) d ps) :
    (.slice a0 len0 cap0 : Value) = .slice none 0 0 ∨ (∃ a, (.slice a0 len0 cap0 : Value) = .slice (some a) 0 0) ∨ ∃ (blk base es : Nat) (l : List (Int × Int × Int × List UInt8 × Int)), (.slice a0 len0 cap0 : Value) = .slice (some ⟨blk, base, none⟩) l.length es ∧
      (∀ p, p ∈ l → stOk p) ∧ l.length ≤ maxLen ∧ l.length ≤ es ∧
      ∃ arr tt fz, w.heap[blk]? = some (.cells arr tt fz) ∧ (∃ s, arr[base]? = some (.int .i64 s)) ∧ ∀ (j : Nat) (x : Value), (l.flatMap stC)[j]? = some x → arr[base + j]? = some x ∧ x.oneCell' = true := by
  obtain ⟨n, hn⟩ := h
  rcases Go.Deep.open_slice ht hn with ⟨e1, _⟩ | ⟨a, len, cap, m, n', D, Pl, e1, hb, hlc, hcm, hm, _, hx⟩
  · left; simpa [Value.cells] using e1
  · right
    have e1 : (.slice a0 len0 cap0 : Value) = .slice (some a) len cap := by simpa [Value.cells] using e1
    rw [e1]
    have hm : m = cap := by simpa using hm
    subst hm
    by_cases h0 : m = 0
    · left; subst h0; obtain rfl : len = 0 := by omega
      exact ⟨a, rfl⟩
    · right
      have str : ∀ {k : Nat} {u : TypeId} {V : Value} {y : DataW H × List MemPlace}, P.underlying u = some .string → DataW.trod enc P w base0 (fun _ => true) held k u [V] = some y → ∃ l : List UInt8, V = St' l ∧ l.length ≤ maxLen := fun {k u V y} hu hq => by
        obtain ⟨s, q1, _, q3⟩ := DataW.trod_string hu hq
        simp at q1
        subst q1
        exact ⟨s.data.toList, by cases s; rfl, by rw [Array.length_toList]; exact q3⟩
      have int : ∀ {k : Nat} {u : TypeId} {V : Value} {y : DataW H × List MemPlace}, P.underlying u = some (.int .i64) → DataW.trod enc P w base0 (fun _ => true) held k u [V] = some y → ∃ z : Int, V = .int .i64 z ∧ (Lit.int .i64 z).wf = true := fun {k u V y} hu hq => by
        obtain ⟨z, q1, _, q3⟩ := DataW.trod_int hu hq
        simp at q1
        exact ⟨z, q1, q3⟩
      have hs : ∀ i, ∃ p : Int × Int × Int × List UInt8 × Int, i < m → (∀ (q : Nat) (x : Value), (stC p)[q]? = some x → w.cell? (a.add (i * 5 + q)) = some x) ∧ stOk p := fun i => by
        by_cases hi : i < m
        · obtain ⟨cs', h1, h2⟩ := hx i hi
          rw [ce] at h1
          obtain ⟨_, hlen, hcell⟩ := World.cells?_some h1
          obtain ⟨xs, k, _, _, _, hxl, hf⟩ := DataW.trod_struct he h2
          match xs, hxl, cs', hlen with
          | [y0, y1], _, [v, v0, v1, v2, v3], _ =>
            have q0 := hf 0 g0 rfl
            have q1 := hf 1 g1 rfl
            simp [p0, p1, d0, d1] at q0 q1
            obtain ⟨z, rfl, w9⟩ := int t0 q0
            obtain ⟨xs2, k2, _, _, _, hxl2, hf2⟩ := DataW.trod_struct t1 q1
            match xs2, hxl2 with
            | [x0, x1, x2, x3], _ =>
            have r0 := hf2 0 f0 rfl
            have r1 := hf2 1 f1 rfl
            have r2 := hf2 2 f2 rfl
            have r3 := hf2 3 f3 rfl
            simp [o0, o1, o2, o3, c0, c1, c2, c3] at r0 r1 r2 r3
            obtain ⟨z0, rfl, w0⟩ := int s0 r0
            obtain ⟨z1, rfl, w1⟩ := int s1 r1
            obtain ⟨l2, rfl, w2⟩ := str s2 r2
            obtain ⟨z3, rfl, w3⟩ := int s3 r3
            refine ⟨(z, z0, z1, l2, z3), fun _ => ⟨fun q x hq => ?_, w9, w0, w1, w2, w3⟩⟩
            have hq4 : q < 5 := (List.getElem?_eq_some_iff.1 hq).1
            have hc := hcell q (by simpa using hq4)
            have ea : (a.add (i * 5)).add q = a.add (i * 5 + q) := Go.Deep.add_add _ _ _
            rw [ea] at hc
            rw [hc]
            exact hq
        · exact ⟨(0, 0, 0, [], 0), fun h => absurd h hi⟩
      have ⟨g, hg⟩ := Classical.axiomOfChoice hs
      have cc := (hg 0 (by omega)).1 0 _ rfl
      have ea : a.add (0 * 5 + 0) = a := by simp [Addr.add]
      rw [ea] at cc
      unfold World.cell? at cc
      cases hh : w.heap[a.block]? with
      | none => rw [hh] at cc; cases cc
      | some o =>
        rw [hh] at cc
        cases o with
        | cells arr tt fz =>
          simp only [] at cc
          cases hsp : a.spot with
          | some q => rw [hsp] at cc; simp at cc
          | none =>
            obtain ⟨blk, base, sp⟩ := a
            simp only [] at hsp; subst hsp
            have cell : ∀ (q : Nat) (x : Value), w.cell? (Addr.add ⟨blk, base, none⟩ q) = some x → arr[base + q]? = some x := fun q x hq => by
              unfold World.cell? at hq
              have eb : (Addr.add ⟨blk, base, none⟩ q).block = blk := block_add _ _
              rw [eb, hh] at hq
              simp only [] at hq
              by_cases hq0 : q = 0
              · subst hq0; simpa [Addr.add] using hq
              · simpa [Addr.add, hq0] using hq
            refine ⟨blk, base, m, (List.range len).map g, by simp, fun p hp => ?_, by simp; omega, by simp; omega, arr, tt, fz, hh, ⟨_, by simpa using cc⟩, fun j x hj => ?_⟩
            · obtain ⟨i, hi, rfl⟩ := List.mem_map.1 hp
              have hi := List.mem_range.1 hi
              exact (hg i (by omega)).2
            · have hd : j = (j / 5) * 5 + j % 5 := by omega
              rw [hd, flat_get stC_len (by omega)] at hj
              cases hq : ((List.range len).map g)[j / 5]? with
              | none => rw [hq] at hj; cases hj
              | some p =>
                rw [hq] at hj
                obtain ⟨hlt, rfl⟩ := range_get hq
                have hi := (hg (j / 5) (by omega)).1 (j % 5) x hj
                refine ⟨by rw [show base + j = base + (j / 5 * 5 + j % 5) by omega]; exact cell _ _ hi, ?_⟩
                have hj : (stC (g (j / 5)))[j % 5]? = some x := hj
                have hmem := List.mem_of_getElem? hj
                simp only [stC, List.mem_cons, List.not_mem_nil, or_false] at hmem
                rcases hmem with rfl | rfl | rfl | rfl | rfl <;> rfl
        | _ => cases cc
def nthS (l : List (Int × Int × Int × List UInt8 × Int)) (j : Nat) : Int × Int × Int × List UInt8 × Int := l.getD j (0, 0, 0, [], 0)
def stB (r : Int × Int × Int × List UInt8 × Int) : Prop := (-9223372036854775808 ≤ r.1 ∧ r.1 ≤ 9223372036854775807) ∧ (-9223372036854775808 ≤ r.2.1 ∧ r.2.1 ≤ 9223372036854775807) ∧ (-9223372036854775808 ≤ r.2.2.1 ∧ r.2.2.1 ≤ 9223372036854775807) ∧ r.2.2.2.1.length ≤ 9223372036854775807 ∧ (-9223372036854775808 ≤ r.2.2.2.2 ∧ r.2.2.2.2 ≤ 9223372036854775807)
theorem stB_of {r : Int × Int × Int × List UInt8 × Int} (h : stOk r) : stB r := by
  obtain ⟨h9, h0, h1, h2, h3⟩ := h
  exact ⟨intOf2 h9 rfl rfl, intOf2 h0 rfl rfl, intOf2 h1 rfl rfl, by unfold maxLen at h2; exact h2, intOf2 h3 rfl rfl⟩
theorem stAt {l : List (Int × Int × Int × List UInt8 × Int)} (h : ∀ n, n ∈ l → stB n) (j : Nat) : stB (nthS l j) := by
  rw [nthS, List.getD_eq_getElem?_getD]
  cases hj : l[j]? with
  | none => exact ⟨by decide, by decide, by decide, by decide, by decide⟩
  | some n => exact h n (List.mem_of_getElem? hj)
end Go.AX
