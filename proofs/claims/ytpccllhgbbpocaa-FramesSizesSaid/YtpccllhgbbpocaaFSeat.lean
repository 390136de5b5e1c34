/- A part of the proof: an interpreter of the model's own code on partly known states, and that what it answers is what the program answers. No condition of its own. -/
import Derived.Test.YtpccllhgbbpocaaSeatF
set_option maxRecDepth 100000
set_option linter.unusedVariables false
namespace Go.Proofs.Ytpccllhgbbpocaa
open Go Go.AX Go.Proofs
open Go.RowKit (Below)
/-- all of n numbers from lo on -/
noncomputable def allN (p : Nat → Bool) (lo n : Nat) : Bool := Nat.rec (motive := fun _ => Bool) true (fun j ih => Bool.rec (motive := fun _ => Bool) false ih (p (lo + j))) n
theorem allN_at {p : Nat → Bool} {lo : Nat} : ∀ {n : Nat}, allN p lo n = true → ∀ i, lo ≤ i → i < lo + n → p i = true
  | 0, _, i, h1, h2 => by omega
  | n + 1, h, i, h1, h2 => by
    have h : Bool.rec (motive := fun _ => Bool) false (allN p lo n) (p (lo + n)) = true := h
    cases hp : p (lo + n) with
    | false => rw [hp] at h; cases h
    | true =>
      rw [hp] at h
      have h : allN p lo n = true := h
      by_cases e : i = lo + n
      · subst e; exact hp
      · exact allN_at h i h1 (by omega)
theorem noStab : ∀ w w' : World, (∀ k, k < 0 → w'.heap[k]? = w.heap[k]?) → True → True := fun _ _ _ h => h
theorem runP {nu : Nat → Value} {one : ∀ i, (nu i).oneCell' = true} {tb : Tab} (h : AllOk (cx nu one 0 (fun _ => True) noStab) tb) (hng : tb.ng = 1) {f g : Nat} {fi : FI} (hfi : tb.fn.get g = some fi) (hb : fi.body.isSome = true) {l : List AV} {args : List Value}
    (hr : (cs tb f).call g l isB ⟨.leaf, 1, 0, 0⟩ = true) (hl : RelL (cx nu one 0 (fun _ => True) noStab) (fun _ => none) l args) (w : World) :
    Calls Try.prog g ⟨args⟩ w fun e w' => e = .returned (.bool true) ∧ Below w.heap.size w w' := by
  obtain ⟨S, hS⟩ := run_cs hr
  refine (run_ok h hfi hb (by rw [hng]; exact hS) hl w trivial (Nat.zero_le _)).mono fun e' w' he => ?_
  obtain ⟨x, ρ, rfl, hx, hb⟩ := he
  simp only [Rel] at hx
  exact ⟨by rw [hx], hb⟩
noncomputable def f5 : FI := ⟨Try.f5.body, Try.f5.ntmps, Try.f5.results.toList, 0, none⟩
theorem f5_at : tab.fn.get 5 = some f5 := by kernel_rfl
theorem f5_body : f5.body.isSome = true := by kernel_rfl
theorem k5 : (cs tab 400).call 5 [] isB ⟨.leaf, 1, 0, 0⟩ = true := by kernel_rfl
noncomputable def tab18 : Tab := addSum tab 5 f5 (.b true)
section
variable (nu : Nat → Value) (one : ∀ i, (nu i).oneCell' = true)
theorem sum5 : SumOk (cx nu one 0 (fun _ => True) noStab) 5 (.b true) := fun w hi hs => by
  refine (runP (tabOk nu one 0 (fun _ => True) noStab) rfl f5_at f5_body k5 (args := []) (by simp only [RelL]) w).mono fun e w' he => ?_
  exact ⟨.bool true, he.1, by simp only [Rel], he.2⟩
theorem tab18Ok : AllOk (cx nu one 0 (fun _ => True) noStab) tab18 := (tabOk nu one 0 (fun _ => True) noStab).sum (by omega) f5_at f5_body (sum5 nu one)
end
namespace framesSizes
def hy (i : Nat) : List (HK × AV) := [(.bin .rem (.x 0) (.i .u16 3000), .i .u16 (.ofNat i))]
noncomputable def tabC (i : Nat) : Tab := { tab18 with hyp := hy i }
noncomputable def run (i : Nat) : Bool := (cs (tabC i) 4000).call 3 [.x 0] isB ⟨.leaf, 1, 0, 0⟩
end framesSizes
end Go.Proofs.Ytpccllhgbbpocaa
