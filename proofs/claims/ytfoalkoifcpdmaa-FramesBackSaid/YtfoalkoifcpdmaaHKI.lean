/- A part of the proof: an interpreter of the model's own code on partly known states, and that what it answers is what the program answers. No condition of its own. -/
import Derived.Test.YtfoalkoifcpdmaaHKG
set_option linter.unusedSimpArgs false
set_option linter.unusedVariables false
namespace Go.AX
section
variable {C : Cx} {x r : AV} {α : Type} {f : α → List Value} {l : List α} {sz : Nat}
theorem kRaG {a : α} {cs : List AV} (hx : Is C x (rwG f l)) (hy : ∀ ρ vs, RelL C ρ cs vs → vs = f a) (hr : Den C r (rwG f (l ++ [a]))) : HOk C (.ra x cs) r := by
  intro ρ vx vs g1 g2
  have e1 := hx ρ vx g1; subst e1
  have e2 := hy ρ vs g2; subst e2
  refine ⟨l.flatMap f, rfl, ?_⟩
  have h := hr ρ
  unfold rwG at h
  rw [List.flatMap_append, List.flatMap_cons, List.flatMap_nil, List.append_nil] at h
  exact h
theorem isL2 {y0 y1 : AV} {v0 v1 : Value} (h0 : Is C y0 v0) (h1 : Is C y1 v1) : ∀ ρ vs, RelL C ρ [y0, y1] vs → vs = [v0, v1] := fun ρ vs h => by
  simp only [RelL] at h
  obtain ⟨a0, t0, rfl, g0, a1, t1, rfl, g1, rfl⟩ := h
  rw [h0 ρ _ g0, h1 ρ _ g1]
theorem isL4 {y0 y1 y2 y3 : AV} {v0 v1 v2 v3 : Value} (h0 : Is C y0 v0) (h1 : Is C y1 v1) (h2 : Is C y2 v2) (h3 : Is C y3 v3) : ∀ ρ vs, RelL C ρ [y0, y1, y2, y3] vs → vs = [v0, v1, v2, v3] := fun ρ vs h => by
  simp only [RelL] at h
  obtain ⟨a0, t0, rfl, g0, a1, t1, rfl, g1, a2, t2, rfl, g2, a3, t3, rfl, g3, rfl⟩ := h
  rw [h0 ρ _ g0, h1 ρ _ g1, h2 ρ _ g2, h3 ρ _ g3]
theorem kRfG {b : Nat} (hf : ∀ a, (f a).length = sz) (hx : Is C x (rwG f l)) (h : l.length * b ≤ 140737488355328) (h2 : l.length ≤ 140737488355328) : HOk C (.rf x sz b) r := by
  intro ρ vx g1
  have e1 := hx ρ vx g1; subst e1
  exact ⟨l.flatMap f, l.length, rfl, bD4 hf l, h, h2⟩
end
def nthP (l : List (List UInt8 × List UInt8)) (j : Nat) : List UInt8 × List UInt8 := l.getD j ([], [])
def prB (p : List UInt8 × List UInt8) : Prop := p.1.length ≤ 9223372036854775807 ∧ p.2.length ≤ 9223372036854775807
theorem prAt {l : List (List UInt8 × List UInt8)} (h : ∀ n, n ∈ l → prB n) (j : Nat) : (nthP l j).1.length ≤ 9223372036854775807 ∧ (nthP l j).2.length ≤ 9223372036854775807 := by
  show prB (nthP l j)
  rw [nthP, List.getD_eq_getElem?_getD]
  cases hj : l[j]? with
  | none => exact ⟨by decide, by decide⟩
  | some n => exact h n (List.mem_of_getElem? hj)
theorem takeP {l : List (List UInt8 × List UInt8)} {i : Int} (h0 : 0 ≤ i) (h1 : i < (l.length : Int)) : l.take (i + 1).toNat = l.take i.toNat ++ [nthP l i.toNat] := by
  have hi : i.toNat < l.length := by omega
  have e : (i + 1).toNat = i.toNat + 1 := by omega
  rw [e, List.take_add_one, nthP, List.getD_eq_getElem?_getD, List.getElem?_eq_getElem hi]; rfl
end Go.AX

