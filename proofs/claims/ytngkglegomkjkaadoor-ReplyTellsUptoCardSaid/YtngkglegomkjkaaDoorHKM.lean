/- A part of the proof: what an interpreter answers on partly known states is what the program answers. No condition. -/
import Derived.Test.YtngkglegomkjkaaDoorHKJ
import Derived.Lib.SmallJoins
set_option linter.unusedSimpArgs false
set_option linter.unusedVariables false
namespace Go.AX
open Go.ChangeShapes
theorem array5 {α : Type} {cs : Array α} (h : cs.size = 5) : ∃ c0 c1 c2 c3 c4, cs = #[c0, c1, c2, c3, c4] := by
 obtain ⟨l⟩ := cs
 match l, h with
 | [c0, c1, c2, c3, c4], _ => exact ⟨c0, c1, c2, c3, c4, rfl⟩
section
open Go.Joins Go.ChangeShapes Go.ChangeMaps Go.Deep Go.WideShapes
variable {H : Type} {enc : TypeId × Value → H} {P : Program} {w : World} {base : Nat} {spare : Nat → Bool} {held : Bool}
theorem trod_struct5 {t : TypeId} {f0 f1 f2 f3 f4 : Field} {fuel : Nat} {cs : List Value} {x : DataW H × List MemPlace} (ht : P.underlying t = some (.struct #[f0, f1, f2, f3, f4])) (h : DataW.trod enc P w base spare held fuel t cs = some x) :
 ∃ y0 y1 y2 y3 y4 n, x = (.agg [y0.1, y1.1, y2.1, y3.1, y4.1], y0.2 ++ (y1.2 ++ (y2.2 ++ (y3.2 ++ y4.2)))) ∧ cs.length = P.cellsOf t ∧ DataW.trod enc P w base spare held n f0.type ((cs.drop f0.offset).take (P.cellsOf f0.type)) = some y0 ∧
  DataW.trod enc P w base spare held n f1.type ((cs.drop f1.offset).take (P.cellsOf f1.type)) = some y1 ∧ DataW.trod enc P w base spare held n f2.type ((cs.drop f2.offset).take (P.cellsOf f2.type)) = some y2 ∧
  DataW.trod enc P w base spare held n f3.type ((cs.drop f3.offset).take (P.cellsOf f3.type)) = some y3 ∧ DataW.trod enc P w base spare held n f4.type ((cs.drop f4.offset).take (P.cellsOf f4.type)) = some y4 := by
 obtain ⟨xs, n, _, rfl, hl, hlen, hf⟩ := DataW.trod_struct ht h
 match xs, hlen with
 | [y0, y1, y2, y3, y4], _ => exact ⟨y0, y1, y2, y3, y4, n, by simp, hl, by simpa using hf 0 f0 rfl, by simpa using hf 1 f1 rfl, by simpa using hf 2 f2 rfl, by simpa using hf 3 f3 rfl, by simpa using hf 4 f4 rfl⟩
theorem open_agg5 {r : Reach} {b0 : Nat} {t : TypeId} {f0 f1 f2 f3 f4 : Field} {v : Value} {d : DataW H} {p : List MemPlace} (hs : P.underlying t = some (.struct #[f0, f1, f2, f3, f4])) (hone : oneCellFields P #[f0, f1, f2, f3, f4] = true) (hC : P.cellsOf t = 5)
 (hv : Value.okWide P w r b0 t v) (h : DataW.Trod enc P w base spare held t v d p) :
 ∃ (v0 v1 v2 v3 v4 : Value) (y0 y1 y2 y3 y4 : DataW H × List MemPlace) (n : Nat), v = .agg #[v0, v1, v2, v3, v4] ∧ d = .agg [y0.1, y1.1, y2.1, y3.1, y4.1] ∧ p = y0.2 ++ (y1.2 ++ (y2.2 ++ (y3.2 ++ y4.2))) ∧
  DataW.trod enc P w base spare held n f0.type [v0] = some y0 ∧ DataW.trod enc P w base spare held n f1.type [v1] = some y1 ∧ DataW.trod enc P w base spare held n f2.type [v2] = some y2 ∧ DataW.trod enc P w base spare held n f3.type [v3] = some y3 ∧ DataW.trod enc P w base spare held n f4.type [v4] = some y4 := by
 obtain ⟨cs, rfl, hsz⟩ := okWide_struct hs hv
 obtain ⟨c0, c1, c2, c3, c4, rfl⟩ := array5 (hsz.trans hC)
 obtain ⟨fuel, hf⟩ := h
 obtain ⟨y0, y1, y2, y3, y4, n, hx, _, h0, h1, h2, h3, h4⟩ := trod_struct5 hs hf
 obtain ⟨o0, k0⟩ := hone_of hone 0 f0 rfl
 obtain ⟨o1, k1⟩ := hone_of hone 1 f1 rfl
 obtain ⟨o2, k2⟩ := hone_of hone 2 f2 rfl
 obtain ⟨o3, k3⟩ := hone_of hone 3 f3 rfl
 obtain ⟨o4, k4⟩ := hone_of hone 4 f4 rfl
 simp only [Prod.mk.injEq] at hx
 exact ⟨c0, c1, c2, c3, c4, y0, y1, y2, y3, y4, n, rfl, hx.1, hx.2, by simpa [Value.cells, o0, k0] using h0, by simpa [Value.cells, o1, k1] using h1, by simpa [Value.cells, o2, k2] using h2, by simpa [Value.cells, o3, k3] using h3, by simpa [Value.cells, o4, k4] using h4⟩
theorem aE9 {t e : TypeId} {fuel : Nat} {v : Value} {x : DataW H × List MemPlace} (ht : P.underlying t = some (.slice e)) (h : DataW.trod enc P w base spare held fuel t [v] = some x) : ∃ a n c, v = .slice a n c := by
 rcases DataW.trod_slice ht h with ⟨h1, _⟩ | ⟨a, len, cap, _, _, _, _, h1, _⟩
 ·injection h1 with h1; exact ⟨_, _, _, h1⟩
 ·injection h1 with h1; exact ⟨_, _, _, h1⟩
end
theorem in_pairs_d {H : Type} {enc : TypeId × Value → H} {P : Program} {w : World} {held : Bool} {base0 : Nat} {t e : TypeId} {f0 f1 : Field} {a0 : Option Addr} {len0 cap0 : Nat} {d : DataW H} {ps : List MemPlace} (ht : P.underlying t = some (.slice e))
 (he : P.underlying e = some (.struct #[f0, f1])) (ce : P.cellsOf e = 2) (o0 : f0.offset = 0) (o1 : f1.offset = 1) (c0 : P.cellsOf f0.type = 1) (c1 : P.cellsOf f1.type = 1) (s0 : P.underlying f0.type = some .string) (s1 : P.underlying f1.type = some .string)
 (h : DataW.Trod enc P w base0 (fun _ => true) held t (.slice a0 len0 cap0) d ps) :
 (.slice a0 len0 cap0 : Value) = .slice none 0 0 ∨ (∃ a, (.slice a0 len0 cap0 : Value) = .slice (some a) 0 0) ∨ ∃ (blk base es : Nat) (l : List (List UInt8 × List UInt8)), (.slice a0 len0 cap0 : Value) = .slice (some ⟨blk, base, none⟩) l.length es ∧
   (∃ sp, d = .slice (l.map fun p => .agg [.lit (.string p.1), .lit (.string p.2)]) sp) ∧ l.length ≤ maxLen ∧ l.length ≤ es ∧
   ∃ arr tt fz, w.heap[blk]? = some (.cells arr tt fz) ∧ (∃ s, arr[base]? = some (.string s)) ∧ ∀ (j : Nat) (x : Value), (l.flatMap aM)[j]? = some x → arr[base + j]? = some x ∧ x.oneCell' = true := by
 obtain ⟨n, hn⟩ := h
 rcases Go.Deep.open_slice_pairs ht he ce o0 o1 c0 c1 hn with ⟨e1, _⟩ | ⟨a, len, cap, m, n', V0, V1, D0, D1, P0, P1, e1, hb, hlc, hcm, hm, hd, hx⟩
 ·left; simpa [Value.cells] using e1
 ·right
  have e1 : (.slice a0 len0 cap0 : Value) = .slice (some a) len cap := by simpa [Value.cells] using e1
  rw [e1]
  have hm : m = cap := by simpa using hm
  subst hm
  by_cases h0 : m = 0
  ·left; subst h0; obtain rfl : len = 0 := by omega
   exact ⟨a, rfl⟩
  ·right
   have str : ∀ {u : TypeId} {V : Value} {D : DataW H} {p : List MemPlace}, P.underlying u = some .string → DataW.trod enc P w base0 (fun _ => true) held n' u [V] = some (D, p) → ∃ l : List UInt8, V = St' l ∧ D = .lit (.string l) := fun {u V D p} hu hq => by
    obtain ⟨s, q1, q2, q3⟩ := DataW.trod_string hu hq
    simp at q1
    subst q1
    exact ⟨s.data.toList, by cases s; rfl, (Prod.mk.inj q2).1⟩
   have hs : ∀ i, ∃ p : List UInt8 × List UInt8, i < m → w.cell? (a.add (i * 2)) = some (St' p.1) ∧ w.cell? (a.add (i * 2 + 1)) = some (St' p.2) ∧ D0 i = .lit (.string p.1) ∧ D1 i = .lit (.string p.2) := fun i => by
    by_cases hi : i < m
    ·obtain ⟨q1, q2, q3, q4⟩ := hx i hi
     obtain ⟨l0, r1, r2⟩ := str s0 q3
     obtain ⟨l1, r3, r4⟩ := str s1 q4
     exact ⟨(l0, l1), fun _ => ⟨by rw [q1, r1], by rw [q2, r3], r2, r4⟩⟩
    ·exact ⟨([], []), fun h => absurd h hi⟩
   have ⟨g, hg⟩ := Classical.axiomOfChoice hs
   have cc := (hg 0 (by omega)).1
   have ea : a.add (0 * 2) = a := by simp [Addr.add]
   rw [ea] at cc
   unfold World.cell? at cc
   cases hh : w.heap[a.block]? with
   | none => rw [hh] at cc; cases cc
   | some o =>
    rw [hh] at cc
    cases o with
    | cells arr tt fz =>
     simp only [] at cc
     cases hsp : a.spot with
     | some q => rw [hsp] at cc; simp at cc
     | none =>
      obtain ⟨blk, base, sp⟩ := a
      simp only [] at hsp; subst hsp
      have cell : ∀ (q : Nat) (x : Value), w.cell? (Addr.add ⟨blk, base, none⟩ q) = some x → arr[base + q]? = some x := fun q x hq => by
       unfold World.cell? at hq
       have eb : (Addr.add ⟨blk, base, none⟩ q).block = blk := block_add _ _
       rw [eb, hh] at hq
       simp only [] at hq
       by_cases hq0 : q = 0
       ·subst hq0; simpa [Addr.add] using hq
       ·simpa [Addr.add, hq0] using hq
      refine ⟨blk, base, m, (List.range len).map g, by simp, ?_, by simp; omega, by simp; omega, arr, tt, fz, hh, ⟨_, by simpa using cc⟩, fun j x hj => ?_⟩
      ·refine ⟨(List.range (m - len)).map fun j => .agg [D0 (len + j), D1 (len + j)], (Prod.mk.inj hd).1.trans ?_⟩
       congr 1
       rw [List.map_map]
       refine List.map_congr_left fun i hi => ?_
       have hi := List.mem_range.1 hi
       have hq := (hg i (by omega)).2.2
       rw [hq.1, hq.2]; rfl
      ·have hd : j = (j / 2) * 2 + j % 2 := by omega
       rw [hd, flat_get bH (by omega)] at hj
       cases hq : ((List.range len).map g)[j / 2]? with
       | none => rw [hq] at hj; cases hj
       | some p =>
        rw [hq] at hj
        obtain ⟨hlt, rfl⟩ := range_get hq
        have hi := hg (j / 2) (by omega)
        rcases (by omega : j % 2 = 0 ∨ j % 2 = 1) with hz | hz
        ·rw [hz] at hj
         simp only [aM, Option.bind_some, List.getElem?_cons_zero, Option.some.injEq] at hj
         subst hj
         exact ⟨by rw [show base + j = base + j / 2 * 2 by omega]; exact cell _ _ hi.1, rfl⟩
        ·rw [hz] at hj
         simp [aM] at hj
         subst hj
         exact ⟨by rw [show base + j = base + (j / 2 * 2 + 1) by omega]; exact cell _ _ hi.2.1, rfl⟩
    | _ => cases cc
end Go.AX

