/- A part of the proof: what an interpreter answers on partly known states is what the program answers. No condition. -/
import Derived.Test.YtcjanblpboaleaaDoorHXpart4
import Derived.Carry
import Derived.ChangeSlices
set_option linter.unusedSimpArgs false
set_option linter.unusedVariables false
namespace Go.AX
open Go.ChangeShapes
theorem aA0 {H : Type} {enc : TypeId × Value → H} {P : Program} (hl : laidOutB P = true) {W W' : World} {sp : Nat → Bool} (hb : Below (Fz.lt W.heap.size) W W') : ∀ {ts : List TypeId} {vs : List Value} {ds : List (DataW H)} {ps : List MemPlace}, (∀ t, t ∈ ts → P.readableRec t = true ∧ t < P.types.size) →
 DataW.TrodAll enc P W 0 (fun _ => true) true ts vs ds ps → (∀ p, p ∈ ps → p.block < W.heap.size) → (∀ p, p ∈ ps → sp p.block = true) → DataW.TrodAll enc P W' 0 sp true ts vs ds ps
 | [], [], [], _, _, h, _, _ => h
 | t :: ts, v :: vs, d :: ds, _, hT, ⟨p, q, h1, h2, e⟩, hlt, hs =>
  ⟨p, q, WideElems.Trod_stays hl (hT t (List.mem_cons_self ..)).1 (hT t (List.mem_cons_self ..)).2 h1 (fun x hx => (show RowKit.Below W.heap.size W W' from ⟨hb.os, hb.tape, hb.output, hb.size, hb.block⟩).same (hlt x (by rw [e]; exact List.mem_append_left _ hx))) (fun x hx => hs x (by rw [e]; exact List.mem_append_left _ hx)),
    aA0 hl hb (fun t ht => hT t (List.mem_cons_of_mem _ ht)) h2 (fun x hx => hlt x (by rw [e]; exact List.mem_append_right _ hx)) (fun x hx => hs x (by rw [e]; exact List.mem_append_right _ hx)), e⟩
theorem in_ints {H : Type} {enc : TypeId × Value → H} {P : Program} {w : World} {held : Bool} {base0 : Nat} {t e : TypeId} {k : IntKind} {a0 : Option Addr} {len0 cap0 : Nat} {d : DataW H} {ps : List MemPlace} (ht : P.underlying t = some (.slice e)) (he : P.underlying e = some (.int k)) (hc : P.cellsOf e = 1)
 (h : DataW.Trod enc P w base0 (fun _ => true) held t (.slice a0 len0 cap0) d ps) :
 (.slice a0 len0 cap0 : Value) = .slice none 0 0 ∨ (∃ a, (.slice a0 len0 cap0 : Value) = .slice (some a) 0 0) ∨ ∃ (blk base es : Nat) (l : List Int), (.slice a0 len0 cap0 : Value) = .slice (some ⟨blk, base, none⟩) l.length es ∧ (∀ n, n ∈ l → (Lit.int k n).wf = true) ∧ l.length ≤ maxLen ∧ l.length ≤ es ∧
   ∃ arr tt fz, w.heap[blk]? = some (.cells arr tt fz) ∧ (∃ n, arr[base]? = some (.int k n)) ∧ ∀ (j : Nat) (x : Value), (l.map (Value.int k))[j]? = some x → arr[base + j]? = some x ∧ x.oneCell' = true := by
 obtain ⟨n, hn⟩ := h
 rcases open_ints ht he hc hn with ⟨e1, _⟩ | ⟨a, len, cap, zs, e1, hb, hlc, hcm, hzl, _, hcell, hwf⟩
 ·left; simpa [Value.cells] using e1
 ·right
  have e1 : (.slice a0 len0 cap0 : Value) = .slice (some a) len cap := by simpa [Value.cells] using e1
  rw [e1]
  have hzl : zs.length = cap := by simpa using hzl
  by_cases h0 : cap = 0
  ·left; subst h0; obtain rfl : len = 0 := by omega
   exact ⟨a, rfl⟩
  ·right
   have c0 := hcell 0 (by omega)
   have ea : a.add 0 = a := by simp [Addr.add]
   rw [ea] at c0
   unfold World.cell? at c0
   cases hh : w.heap[a.block]? with
   | none => rw [hh] at c0; cases c0
   | some o =>
    rw [hh] at c0
    cases o with
    | cells arr tt fz =>
     simp only [] at c0
     cases hs : a.spot with
     | some q => rw [hs] at c0; simp at c0
     | none =>
      obtain ⟨blk, base, sp⟩ := a
      simp only [] at hs; subst hs
      refine ⟨blk, base, cap, zs.take len, by rw [List.length_take]; congr 1; omega, fun m hm => hwf m (List.mem_of_mem_take hm), by rw [List.length_take]; omega, by rw [List.length_take]; omega, arr, tt, fz, hh, ⟨_, by simpa using c0⟩, fun j x hx => ?_⟩
      rw [List.getElem?_map] at hx
      cases hq : (zs.take len)[j]? with
      | none => rw [hq] at hx; cases hx
      | some m =>
       rw [hq] at hx
       simp only [Option.map_some, Option.some.injEq] at hx
       subst hx
       have hj : j < (zs.take len).length := (List.getElem?_eq_some_iff.1 hq).1
       rw [List.length_take] at hj
       have hcj := hcell j (by omega)
       have ej : zs.getD j 0 = m := by
        rw [List.getElem?_take_of_lt (by omega)] at hq
        rw [List.getD_eq_getElem?_getD, hq]; rfl
       rw [ej] at hcj
       refine ⟨?_, rfl⟩
       unfold World.cell? at hcj
       have eb : (Addr.add ⟨blk, base, none⟩ j).block = blk := block_add _ _
       rw [eb, hh] at hcj
       simp only [] at hcj
       by_cases hj0 : j = 0
       ·subst hj0; simpa [Addr.add] using hcj
       ·simpa [Addr.add, hj0] using hcj
    | _ => cases c0
end Go.AX

