/- A part of the proof: what an interpreter answers on partly known states is what the program answers. No condition. -/
import Derived.Test.YtngkglegomkjkaaDoorHKG
set_option linter.unusedSimpArgs false
set_option linter.unusedVariables false
namespace Go.AX
section
variable {C : Cx} {x r : AV} {α : Type} {f : α → List Value} {l : List α} {sz : Nat}
theorem xK {a : α} {cs : List AV} (hx : Is C x (aN f l)) (hy : ∀ ρ vs, aH C ρ cs vs → vs = f a) (hr : Den C r (aN f (l ++ [a]))) : aS C (.ra x cs) r := by
 intro ρ vx vs g1 g2
 have e1 := hx ρ vx g1; subst e1
 have e2 := hy ρ vs g2; subst e2
 refine ⟨l.flatMap f, rfl, ?_⟩
 have h := hr ρ
 unfold aN at h
 rw [List.flatMap_append, List.flatMap_cons, List.flatMap_nil, List.append_nil] at h
 exact h
theorem xR {y0 y1 : AV} {v0 v1 : Value} (h0 : Is C y0 v0) (h1 : Is C y1 v1) : ∀ ρ vs, aH C ρ [y0, y1] vs → vs = [v0, v1] := fun ρ vs h => by
 simp only [aH] at h
 obtain ⟨a0, t0, rfl, g0, a1, t1, rfl, g1, rfl⟩ := h
 rw [h0 ρ _ g0, h1 ρ _ g1]
theorem gm {b : Nat} (hf : ∀ a, (f a).length = sz) (hx : Is C x (aN f l)) (h : l.length * b ≤ 140737488355328) (h2 : l.length ≤ 140737488355328) : aS C (.rf x sz b) r := by
 intro ρ vx g1
 have e1 := hx ρ vx g1; subst e1
 exact ⟨l.flatMap f, l.length, rfl, mT hf l, h, h2⟩
end
def aU (l : List (List UInt8 × List UInt8)) (j : Nat) : List UInt8 × List UInt8 := l.getD j ([], [])
def cf (p : List UInt8 × List UInt8) : Prop := p.1.length ≤ 9223372036854775807 ∧ p.2.length ≤ 9223372036854775807
theorem eW {l : List (List UInt8 × List UInt8)} (h : ∀ n, n ∈ l → cf n) (j : Nat) : (aU l j).1.length ≤ 9223372036854775807 ∧ (aU l j).2.length ≤ 9223372036854775807 := by
 show cf (aU l j)
 rw [aU, List.getD_eq_getElem?_getD]
 cases hj : l[j]? with
 | none => exact ⟨by decide, by decide⟩
 | some n => exact h n (List.mem_of_getElem? hj)
theorem nj {l : List (List UInt8 × List UInt8)} {i : Int} (h0 : 0 ≤ i) (h1 : i < (l.length : Int)) : l.take (i + 1).toNat = l.take i.toNat ++ [aU l i.toNat] := by
 have hi : i.toNat < l.length := by omega
 have e : (i + 1).toNat = i.toNat + 1 := by omega
 rw [e, List.take_add_one, aU, List.getD_eq_getElem?_getD, List.getElem?_eq_getElem hi]; rfl
end Go.AX

