/- A part of the proof: an interpreter of the model's own code on partly known states, and that what it answers is what the program answers. No condition of its own. -/
import Derived.Test.YtipdlfkjablekaaDoorHKC
import Derived.Test.YtipdlfkjablekaaDoorHXpart4
import Derived.Deep.Strs
set_option linter.unusedSimpArgs false
set_option linter.unusedVariables false
namespace Go.AX
open Go.ChangeShapes
theorem rangeN_get {α : Type} {f : Nat → α} {n j : Nat} {x : α} (h : ((List.range n).map f)[j]? = some x) : j < n ∧ x = f j := by
  rw [List.getElem?_map] at h
  cases hr : (List.range n)[j]? with
  | none => rw [hr] at h; cases h
  | some m =>
    rw [hr] at h
    obtain ⟨hlt, e⟩ := List.getElem?_eq_some_iff.1 hr
    simp at hlt e
    subst e
    simp at h
    exact ⟨hlt, h.symm⟩
theorem wtsN_mem {H : Type} {P : Program} {e : TypeId} {x : DataW H} {n : Nat} : ∀ {l : List (DataW H)}, x ∈ l → n ∈ x.weights P e → n ∈ DataW.weightsAll P e l
  | y :: l, h, hn => by
    unfold DataW.weightsAll
    rcases List.mem_cons.1 h with rfl | h
    · exact List.mem_append_left _ hn
    · exact List.mem_append_right _ (wtsN_mem h hn)
/-- an element of a row of strings -/
def nthS (l : List (List UInt8)) (j : Nat) : List UInt8 := l.getD j []
theorem nthS_mem {l : List (List UInt8)} {j : Nat} (h : j < l.length) : nthS l j ∈ l := by
  rw [nthS, List.getD_eq_getElem?_getD, List.getElem?_eq_getElem h]; exact List.getElem_mem h
theorem nthS_at {l : List (List UInt8)} {P : List UInt8 → Prop} (h : ∀ q, q ∈ l → P q) {j : Nat} (hj : j < l.length) : P (nthS l j) := h _ (nthS_mem hj)
theorem kElN {C : Cx} {x i r : AV} {l : List (List UInt8)} {k : IntKind} {a : Int} {j : Nat} (hx : Is C x (rwS l)) (hi : Is C i (.int k a)) (hr : Den C r (St' (nthS l j))) (ha : a = (j : Int)) (hj : j < l.length) : HOk C (.el x i 1 0) r := kEl hx hi hr ha hj
/-- a slice of strings, opened: nil, of no room, or a row -/
theorem in_strs {H : Type} {enc : TypeId × Value → H} {P : Program} {w : World} {held : Bool} {base0 : Nat} {t e : TypeId} {a0 : Option Addr} {len0 cap0 : Nat} {d : DataW H} {ps : List MemPlace} (ht : P.underlying t = some (.slice e)) (he : P.underlying e = some .string) (hc : P.cellsOf e = 1)
    {N : Nat} (hw : ∀ x, x ∈ d.weights P t → x ≤ N) (h : DataW.Trod enc P w base0 (fun _ => true) held t (.slice a0 len0 cap0) d ps) :
    (.slice a0 len0 cap0 : Value) = .slice none 0 0 ∨ (∃ a, (.slice a0 len0 cap0 : Value) = .slice (some a) 0 0) ∨ ∃ (blk base es : Nat) (l : List (List UInt8)), (.slice a0 len0 cap0 : Value) = .slice (some ⟨blk, base, none⟩) l.length es ∧
      (∀ p, p ∈ l → p.length ≤ N) ∧ l.length ≤ maxLen ∧ l.length ≤ es ∧
      ∃ arr tt fz, w.heap[blk]? = some (.cells arr tt fz) ∧ (∃ s, arr[base]? = some (.string s)) ∧ ∀ (j : Nat) (x : Value), (l.map St')[j]? = some x → arr[base + j]? = some x ∧ x.oneCell' = true := by
  obtain ⟨n, hn⟩ := h
  rcases Go.Deep.open_strs ht he hc hn with ⟨e1, _⟩ | ⟨a, len, cap, m, Sx, e1, hb, hlc, hcm, hm, hd, hx⟩
  · left; simpa [Value.cells] using e1
  · right
    have e1 : (.slice a0 len0 cap0 : Value) = .slice (some a) len cap := by simpa [Value.cells] using e1
    rw [e1]
    have hm : m = cap := by simpa using hm
    subst hm
    by_cases h0 : m = 0
    · left; subst h0; obtain rfl : len = 0 := by omega
      exact ⟨a, rfl⟩
    · right
      have es : ∀ i, (Value.string (Sx i)) = St' (Sx i).data.toList := fun i => by cases Sx i; rfl
      have cc := (hx 0 (by omega)).1
      have ea : a.add 0 = a := by simp [Addr.add]
      rw [ea] at cc
      unfold World.cell? at cc
      cases hh : w.heap[a.block]? with
      | none => rw [hh] at cc; cases cc
      | some o =>
        rw [hh] at cc
        cases o with
        | cells arr tt fz =>
          simp only [] at cc
          cases hsp : a.spot with
          | some q => rw [hsp] at cc; simp at cc
          | none =>
            obtain ⟨blk, base, sp⟩ := a
            simp only [] at hsp; subst hsp
            have cell : ∀ (q : Nat) (x : Value), w.cell? (Addr.add ⟨blk, base, none⟩ q) = some x → arr[base + q]? = some x := fun q x hq => by
              unfold World.cell? at hq
              have eb : (Addr.add ⟨blk, base, none⟩ q).block = blk := block_add _ _
              rw [eb, hh] at hq
              simp only [] at hq
              by_cases hq0 : q = 0
              · subst hq0; simpa [Addr.add] using hq
              · simpa [Addr.add, hq0] using hq
            refine ⟨blk, base, m, (List.range len).map fun i => (Sx i).data.toList, by simp, fun p hp => ?_, by simp; omega, by simp; omega, arr, tt, fz, hh, ⟨_, by simpa using cc⟩, fun j x hj => ?_⟩
            · obtain ⟨i, hi, rfl⟩ := List.mem_map.1 hp
              have hi := List.mem_range.1 hi
              have hd' : d = .slice ((List.range len).map fun i => .lit (.string (Sx i).data.toList)) ((List.range (m - len)).map fun j => .lit (.string (Sx (len + j)).data.toList)) := (Prod.mk.inj hd).1
              refine hw _ ?_
              rw [hd']
              unfold DataW.weights
              rw [ht]
              refine List.mem_cons_of_mem _ (List.mem_append_left _ (wtsN_mem (x := .lit (.string (Sx i).data.toList)) (List.mem_map.2 ⟨i, List.mem_range.2 hi, rfl⟩) ?_))
              unfold DataW.weights
              simp
            · rw [List.getElem?_map] at hj
              cases hq : ((List.range len).map fun i => (Sx i).data.toList)[j]? with
              | none => rw [hq] at hj; cases hj
              | some p =>
                rw [hq] at hj
                obtain ⟨hlt, rfl⟩ := rangeN_get hq
                have hi := hx j (by omega)
                simp only [Option.map_some, Option.some.injEq] at hj
                subst hj
                exact ⟨cell _ _ (by rw [hi.1, es]), rfl⟩
        | _ => cases cc
end Go.AX
