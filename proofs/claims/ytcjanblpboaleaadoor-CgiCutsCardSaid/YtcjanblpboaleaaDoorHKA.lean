/- A part of the proof: what an interpreter answers on partly known states is what the program answers. No condition. -/
import Derived.Test.YtcjanblpboaleaaDoorHXpart4
import Derived.Test.YtcjanblpboaleaaDoorAXro
set_option linter.unusedSimpArgs false
set_option linter.unusedVariables false
namespace Go.AX
noncomputable section
def cg (k : IntKind) (l : List Int) : Value := .tuple ⟨l.map (Value.int k)⟩
def bW (l : List Int) (j : Nat) : Int := l.getD j 0
section
variable {C : Cx} {x i r : AV} {l : List Int} {q : IntKind}
theorem fP {c : Int} (hx : Is C x (cg q l)) (hr : Den C r (.int .i64 c)) (hc : (l.length : Int) = c) : aM C (.rl x 1) r := by
 intro ρ vx g1
 have e1 := hx ρ vx g1; subst e1
 subst hc
 exact ⟨l.map (Value.int q), l.length, rfl, by rw [List.length_map, Nat.mul_one], hr ρ⟩
theorem fS {k : IntKind} {a : Int} {j : Nat} (hx : Is C x (cg q l)) (hi : Is C i (.int k a)) (hr : Den C r (.int q (bW l j))) (ha : a = (j : Int)) (hj : j < l.length) : aM C (.el x i 1 0) r := by
 intro ρ vx vi g1 g2
 have e1 := hx ρ vx g1; subst e1
 have e2 := hi ρ vi g2; subst e2
 subst ha
 refine ⟨l.map (Value.int q), k, j, _, rfl, rfl, ?_, hr ρ⟩
 rw [bW, Nat.mul_one, Nat.add_zero, List.getElem?_map, List.getD_eq_getElem?_getD, List.getElem?_eq_getElem hj]; rfl
theorem rngAt {lo hi : Int} (h0 : lo ≤ 0) (h1 : 0 ≤ hi) (h : ∀ n, n ∈ l → lo ≤ n ∧ n ≤ hi) (j : Nat) : lo ≤ bW l j ∧ bW l j ≤ hi := by
 rw [bW, List.getD_eq_getElem?_getD]
 cases hj : l[j]? with
 | none => exact ⟨h0, h1⟩
 | some n => exact h n (List.mem_of_getElem? hj)
end
end
end Go.AX

