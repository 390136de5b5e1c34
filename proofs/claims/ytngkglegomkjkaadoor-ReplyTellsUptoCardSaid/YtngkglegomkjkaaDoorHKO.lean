/- A part of the proof: what an interpreter answers on partly known states is what the program answers. No condition. -/
import Derived.Test.YtngkglegomkjkaaDoorHKI
set_option linter.unusedSimpArgs false
set_option linter.unusedVariables false
namespace Go.AX
noncomputable section
section
variable {C : Cx} {x i r : AV}
theorem aH1 {α : Type} {f : α → List Value} {sz : Nat} (hf : ∀ a, (f a).length = sz) (p : α) : ∀ (l : List α) (j : Nat), j < l.length → bd (l.flatMap f) (j * sz) (f p) = (l.set j p).flatMap f
 | a :: l, 0, _ => by
  unfold bd
  rw [Nat.zero_mul, List.take_zero, List.nil_append, List.set_cons_zero, List.flatMap_cons, List.flatMap_cons, Nat.zero_add]
  congr 1
  rw [show (f p).length = (f a).length by rw [hf, hf], List.drop_left]
 | a :: l, j + 1, h => by
  have ih := aH1 hf p l j (by simpa using h)
  unfold bd at ih ⊢
  have e : (j + 1) * sz = (f a).length + j * sz := by rw [hf, Nat.add_mul, Nat.one_mul, Nat.add_comm]
  rw [List.set_cons_succ, List.flatMap_cons, List.flatMap_cons, ← ih, e, List.take_append, List.take_of_length_le (by omega), Nat.add_sub_cancel_left, List.drop_append, List.drop_eq_nil_of_le (by omega), List.nil_append]
  rw [show (f a).length + j * sz + (f p).length - (f a).length = j * sz + (f p).length by omega]
  simp only [List.append_assoc]
theorem kRpG {α : Type} {f : α → List Value} {l : List α} {k : IntKind} {a : Int} {j : Nat} {p : α} {ys : List AV} (hf : ∀ a, (f a).length = ys.length) (hx : Is C x (aN f l)) (hi : Is C i (.int k a)) (hy : ∀ ρ vs, aH C ρ ys vs → vs = f p) (hr : Den C r (aN f (l.set j p))) (ha : a = (j : Int)) (hj : j < l.length) : aS C (.rp x i ys) r := by
 intro ρ vx vi vs g1 g2 g3
 have e1 := hx ρ vx g1; subst e1
 have e2 := hi ρ vi g2; subst e2
 have e3 := hy ρ vs g3; subst e3
 subst ha
 have h := hr ρ
 unfold aN at h
 rw [← aH1 hf p l j hj] at h
 refine ⟨l.flatMap f, k, j, rfl, rfl, ?_, h⟩
 rw [mT hf]
 have := Nat.mul_le_mul_right ys.length (show j + 1 ≤ l.length from hj)
 rw [Nat.add_mul, Nat.one_mul] at this
 exact this
theorem kRp {l : List (List UInt8 × List UInt8)} {k : IntKind} {a : Int} {j : Nat} {p q : List UInt8} {u v : AV} (hx : Is C x (aN aM l)) (hi : Is C i (.int k a)) (h1 : Is C u (St' p)) (h2 : Is C v (St' q)) (hr : Den C r (aN aM (l.set j (p, q)))) (ha : a = (j : Int)) (hj : j < l.length) : aS C (.rp x i [u, v]) r :=
 kRpG (p := (p, q)) bH hx hi (fun ρ vs h => by
  simp only [aH] at h
  obtain ⟨v0, t0, rfl, a0, v1, t1, rfl, a1, rfl⟩ := h
  rw [h1 ρ _ a0, h2 ρ _ a1]; rfl) hr ha hj
end
end
end Go.AX

