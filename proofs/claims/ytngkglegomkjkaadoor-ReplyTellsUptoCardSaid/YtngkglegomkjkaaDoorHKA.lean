/- A part of the proof: what an interpreter answers on partly known states is what the program answers. No condition. -/
import Derived.Test.YtngkglegomkjkaaDoorHXpart4
import Derived.Test.YtngkglegomkjkaaDoorAXro
set_option linter.unusedSimpArgs false
set_option linter.unusedVariables false
namespace Go.AX
noncomputable section
def cq (l : List AV) (c : Int) : List UInt8 := match l[c.toNat]? with
 | some (.s len n) => bV len n
 | _ => []
def isTx : AV → Bool
 | .s len n => Nat.blt n (2 ^ (8 * len))
 | _ => false
section
variable {C : Cx} {x i r : AV} {l : List Int} {q : IntKind}
theorem C4 {k : IntKind} {c : Int} {t : List AV} {m : Nat} (hx : Is C x (.int k c)) (h0 : 0 ≤ c) (h1 : c < (t.length : Int)) (hall : t.all isTx = true) (hr : C.nu m = St' (cq t c)) : aS C (.tab t x) (.x m) := by
 intro ρ vx g1
 have e1 := hx ρ vx g1; subst e1
 obtain ⟨n, rfl⟩ := Int.eq_ofNat_of_zero_le h0
 have hn : n < t.length := by omega
 have hm := List.all_eq_true.1 hall _ (List.getElem_mem hn)
 refine ⟨k, n, t[n], rfl, List.getElem?_eq_getElem hn, fun ρ' v hv => ?_⟩
 simp only [Rel]
 rw [hr]
 unfold cq
 rw [Int.toNat_natCast, List.getElem?_eq_getElem hn]
 cases hc : t[n] <;> rw [hc] at hm hv <;> simp only [isTx] at hm <;> first | (cases hm; done) | skip
 simp only [Rel] at hv
 exact hv.1
end
end
end Go.AX

