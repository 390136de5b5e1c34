/- A part of the proof: an interpreter of the model's own code on partly known states, and that what it answers is what the program answers. No condition of its own. -/
import Derived.Test.YtipdlfkjablekaaDoorHXpart4
import Derived.Test.YtipdlfkjablekaaDoorAXro
set_option linter.unusedSimpArgs false
set_option linter.unusedVariables false
namespace Go.AX
noncomputable section
/-- a row of numbers -/
def rwI (k : IntKind) (l : List Int) : Value := .tuple ⟨l.map (Value.int k)⟩
/-- a number out of a row -/
def nthI (l : List Int) (j : Nat) : Int := l.getD j 0
/-- a text out of a row of texts -/
def tabS (l : List AV) (c : Int) : List UInt8 := match l[c.toNat]? with
  | some (.s len n) => strB len n
  | _ => []
def isTx : AV → Bool
  | .s len n => Nat.blt n (2 ^ (8 * len))
  | _ => false
section
variable {C : Cx} {x i r : AV} {l : List Int} {q : IntKind}
theorem kRlI {c : Int} (hx : Is C x (rwI q l)) (hr : Den C r (.int .i64 c)) (hc : (l.length : Int) = c) : HOk C (.rl x 1) r := by
  intro ρ vx g1
  have e1 := hx ρ vx g1; subst e1
  subst hc
  exact ⟨l.map (Value.int q), l.length, rfl, by rw [List.length_map, Nat.mul_one], hr ρ⟩
theorem kElI {k : IntKind} {a : Int} {j : Nat} (hx : Is C x (rwI q l)) (hi : Is C i (.int k a)) (hr : Den C r (.int q (nthI l j))) (ha : a = (j : Int)) (hj : j < l.length) : HOk C (.el x i 1 0) r := by
  intro ρ vx vi g1 g2
  have e1 := hx ρ vx g1; subst e1
  have e2 := hi ρ vi g2; subst e2
  subst ha
  refine ⟨l.map (Value.int q), k, j, _, rfl, rfl, ?_, hr ρ⟩
  rw [nthI, Nat.mul_one, Nat.add_zero, List.getElem?_map, List.getD_eq_getElem?_getD, List.getElem?_eq_getElem hj]; rfl
theorem kSlen {a : Option Addr} {n c : Nat} {m : Int} (hx : Is C x (.slice a n c)) (hr : Den C r (.int .i64 m)) (hm : (n : Int) = m) : HOk C (.slen x) r := by
  intro ρ vx g1
  have e1 := hx ρ vx g1; subst e1
  subst hm
  exact ⟨a, n, c, rfl, hr ρ⟩
theorem kTabS {k : IntKind} {c : Int} {t : List AV} {m : Nat} (hx : Is C x (.int k c)) (h0 : 0 ≤ c) (h1 : c < (t.length : Int)) (hall : t.all isTx = true) (hr : C.nu m = St' (tabS t c)) : HOk C (.tab t x) (.x m) := by
  intro ρ vx g1
  have e1 := hx ρ vx g1; subst e1
  obtain ⟨n, rfl⟩ := Int.eq_ofNat_of_zero_le h0
  have hn : n < t.length := by omega
  have hm := List.all_eq_true.1 hall _ (List.getElem_mem hn)
  refine ⟨k, n, t[n], rfl, List.getElem?_eq_getElem hn, fun ρ' v hv => ?_⟩
  simp only [Rel]
  rw [hr]
  unfold tabS
  rw [Int.toNat_natCast, List.getElem?_eq_getElem hn]
  cases hc : t[n] <;> rw [hc] at hm hv <;> simp only [isTx] at hm <;> first | (cases hm; done) | skip
  simp only [Rel] at hv
  exact hv.1
theorem rngAt {lo hi : Int} (h0 : lo ≤ 0) (h1 : 0 ≤ hi) (h : ∀ n, n ∈ l → lo ≤ n ∧ n ≤ hi) (j : Nat) : lo ≤ nthI l j ∧ nthI l j ≤ hi := by
  rw [nthI, List.getD_eq_getElem?_getD]
  cases hj : l[j]? with
  | none => exact ⟨h0, h1⟩
  | some n => exact h n (List.mem_of_getElem? hj)
end
end
end Go.AX
