/- A part of the proof: what an interpreter answers on partly known states is what the program answers. No condition. -/
import Derived.Test.YtngkglegomkjkaaDoorHKA
set_option linter.unusedSimpArgs false
set_option linter.unusedVariables false
namespace Go.AX
noncomputable section
def aN {α : Type} (f : α → List Value) (l : List α) : Value := .tuple ⟨l.flatMap f⟩
theorem mT {α : Type} {f : α → List Value} {sz : Nat} (hf : ∀ a, (f a).length = sz) : ∀ l : List α, (l.flatMap f).length = l.length * sz
 | [] => by simp
 | a :: l => by rw [List.flatMap_cons, List.length_append, hf, mT hf l, List.length_cons, Nat.add_mul, Nat.one_mul, Nat.add_comm]
theorem flat_get {α : Type} {f : α → List Value} {sz off : Nat} (hf : ∀ a, (f a).length = sz) (ho : off < sz) : ∀ (l : List α) (j : Nat), (l.flatMap f)[j * sz + off]? = (l[j]?).bind fun a => (f a)[off]?
 | [], j => by simp
 | a :: l, 0 => by
  rw [List.flatMap_cons, Nat.zero_mul, Nat.zero_add, List.getElem?_append_left (by rw [hf]; exact ho)]; rfl
 | a :: l, j + 1 => by
  rw [List.flatMap_cons, List.getElem?_append_right (by rw [hf, Nat.add_mul, Nat.one_mul]; omega), hf, List.getElem?_cons_succ, ← flat_get hf ho l j]
  congr 1
  rw [Nat.add_mul, Nat.one_mul]; omega
section
variable {C : Cx} {x i r : AV} {α : Type} {f : α → List Value} {l : List α} {sz : Nat}
theorem cK {c : Int} (hf : ∀ a, (f a).length = sz) (hx : Is C x (aN f l)) (hr : Den C r (.int .i64 c)) (hc : (l.length : Int) = c) : aS C (.rl x sz) r := by
 intro ρ vx g1
 have e1 := hx ρ vx g1; subst e1
 subst hc
 exact ⟨l.flatMap f, l.length, rfl, mT hf l, hr ρ⟩
theorem cY {k : IntKind} {a : Int} {j off : Nat} {v : Value} {d : α} (hf : ∀ a, (f a).length = sz) (ho : off < sz) (hx : Is C x (aN f l)) (hi : Is C i (.int k a)) (hr : Den C r v) (ha : a = (j : Int)) (hj : j < l.length) (hv : (f (l.getD j d))[off]? = some v) : aS C (.el x i sz off) r := by
 intro ρ vx vi g1 g2
 have e1 := hx ρ vx g1; subst e1
 have e2 := hi ρ vi g2; subst e2
 subst ha
 refine ⟨l.flatMap f, k, j, v, rfl, rfl, ?_, hr ρ⟩
 rw [flat_get hf ho, List.getElem?_eq_getElem hj]
 rw [List.getD_eq_getElem?_getD, List.getElem?_eq_getElem hj] at hv
 exact hv
end
end
end Go.AX

