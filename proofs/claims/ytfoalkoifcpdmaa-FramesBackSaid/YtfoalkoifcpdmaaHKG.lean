/- A part of the proof: an interpreter of the model's own code on partly known states, and that what it answers is what the program answers. No condition of its own. -/
import Derived.Test.YtfoalkoifcpdmaaHKF
set_option linter.unusedSimpArgs false
set_option linter.unusedVariables false
namespace Go.AX
def nthR (l : List (Int × Int × List UInt8 × Int)) (j : Nat) : Int × Int × List UInt8 × Int := l.getD j (0, 0, [], 0)
def reB (r : Int × Int × List UInt8 × Int) : Prop := (-9223372036854775808 ≤ r.1 ∧ r.1 ≤ 9223372036854775807) ∧ (-9223372036854775808 ≤ r.2.1 ∧ r.2.1 ≤ 9223372036854775807) ∧ r.2.2.1.length ≤ 9223372036854775807 ∧ (-9223372036854775808 ≤ r.2.2.2 ∧ r.2.2.2 ≤ 9223372036854775807)
theorem reAt {l : List (Int × Int × List UInt8 × Int)} (h : ∀ n, n ∈ l → reB n) (j : Nat) : (-9223372036854775808 ≤ (nthR l j).1 ∧ (nthR l j).1 ≤ 9223372036854775807) ∧ (-9223372036854775808 ≤ (nthR l j).2.1 ∧ (nthR l j).2.1 ≤ 9223372036854775807) ∧ (nthR l j).2.2.1.length ≤ 9223372036854775807 ∧ (-9223372036854775808 ≤ (nthR l j).2.2.2 ∧ (nthR l j).2.2.2 ≤ 9223372036854775807) := by
  show reB (nthR l j)
  rw [nthR, List.getD_eq_getElem?_getD]
  cases hj : l[j]? with
  | none => exact ⟨by decide, by decide, by decide, by decide⟩
  | some n => exact h n (List.mem_of_getElem? hj)
theorem takeR {l : List (Int × Int × List UInt8 × Int)} {i : Int} (h0 : 0 ≤ i) (h1 : i < (l.length : Int)) : l.take (i + 1).toNat = l.take i.toNat ++ [nthR l i.toNat] := by
  have hi : i.toNat < l.length := by omega
  have e : (i + 1).toNat = i.toNat + 1 := by omega
  rw [e, List.take_add_one, nthR, List.getD_eq_getElem?_getD, List.getElem?_eq_getElem hi]; rfl
end Go.AX

