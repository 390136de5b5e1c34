/- A part of the proof: an interpreter of the model's own code on partly known states, and that what it answers is what the program answers. No condition of its own. -/
import Derived.Test.YtojgdbbjblaalaaDoorXDSeat
import Derived.Test.YtojgdbbjblaalaaDoorRows
import Derived.ChangeVars
import Derived.JoinedOf
import Derived.RowKit
import Derived.RowKitTokens
import Derived.LaidLaws
import Derived.LaidHandle
import Derived.Stop.Joined
import Derived.WalkKit
import Derived.ProofKit
import Derived.OpenShut
import Derived.Lay
import Derived.LaidOnce
namespace Go.Proofs.YtojgdbbjblaalaaDoor
open Go Go.AX Go.Proofs
open Go.ChangeShapes Go.WideShapes Go.ChangeAt Go.RowKit
set_option linter.unusedVariables false
set_option maxRecDepth 100000
theorem own : ownKnob Tryd.prog.godebug = none := by kernel_rfl
theorem laidMet_from {P : Program} {w0 : World} {laid : List (String × DataW Unit)} (args : Array Value)
    (hf : w0.layFits P laid [] = true)
    (hi : w0.layIfaces P laid (w0.layVars P laid) = true) :
    laidMet P laid ((w0.layVars P laid).forCall (fun _ _ => 0) ⟨#[], args, []⟩).memory := by
  have e1 : (laid.filter fun x => (laid.map (·.1)).contains x.1) = laid := List.filter_eq_self.2 fun x hx => List.contains_iff_mem.2 (List.mem_map.2 ⟨x, hx, rfl⟩)
  have e2 : (laid.filter fun x => !(laid.map (·.1)).contains x.1) = [] := List.filter_eq_nil_iff.2 fun x hx => by rw [List.contains_iff_mem.2 (List.mem_map.2 ⟨x, hx, rfl⟩)]; simp
  have h : laidMet P laid (w0.layVars P laid) := laidMet_layVars (w0 := w0) (laid.map (·.1)) [] (by rw [e1]) (by rw [e1]; exact hf) (by rw [e1]; exact hi) (by rw [e2]; exact LaidIn.none)
  exact h.of_heap (by simp [World.memory, World.forCall, Input.heap])
theorem remRun (P : Program) (t : TypeId) (a b : Int) (hb : b ≠ 0) (w : World) : (binOp .rem t (.int .u8 a) (.int .u8 b)).run P w = .ok (.int .u8 (a.tmod b)) w := by
  simp [binOp, Op.intDiv, hb]
theorem hRem {C : Cx} {i : Nat} {a b : Int} (hi : C.nu i = .int .u8 a) (hb : b ≠ 0) {r : AV} (hr : ∀ ρ, Rel C ρ r (.int .u8 (a.tmod b))) : HOk C (.bin .rem (.x i) (.i .u8 b)) r := by
  intro ρ vx vy hx hy'
  simp only [Rel] at hx hy'
  subst hx; subst hy'
  rw [hi]
  exact ⟨.inl ⟨.u8, a, b, rfl, rfl⟩, _, hr ρ, fun t w => remRun _ t a b hb w⟩
theorem hRemN {C : Cx} {i : Nat} {k : IntKind} {a b : Int} (hi : C.nu i = .int k a) (hb : b ≠ 0) {r : AV} (hr : ∀ ρ, Rel C ρ r (.int k (a.tmod b))) : HOk C (.bin .rem (.x i) (.i k b)) r := by
  intro ρ vx vy hx hy'
  simp only [Rel] at hx hy'
  subst hx; subst hy'
  rw [hi]
  exact ⟨.inl ⟨k, a, b, rfl, rfl⟩, _, hr ρ, fun t w => by simp [binOp, Op.intDiv, hb]⟩
theorem wordRange {a : Int} (h : (Lit.int .u16 a).wf = true) : 0 ≤ a ∧ a ≤ 65535 := by
  have h1 : IntKind.u16.min ≤ a ∧ a ≤ IntKind.u16.max := by simpa [Lit.wf] using h
  have e1 : IntKind.u16.min = 0 := rfl
  have e2 : IntKind.u16.max = 65535 := rfl
  rw [e1, e2] at h1
  exact h1
theorem modNat {a : Int} {n : Nat} (h1 : 0 ≤ a) (hn : 0 < n) : ∃ i : Nat, i < n ∧ a.tmod (n : Int) = Int.ofNat i := by
  refine ⟨(a % (n : Int)).toNat, ?_, ?_⟩
  · have := Int.emod_lt_of_pos a (b := (n : Int)) (by omega)
    have := Int.emod_nonneg a (b := (n : Int)) (by omega)
    omega
  · rw [Int.tmod_eq_emod_of_nonneg h1]
    have := Int.emod_nonneg a (b := (n : Int)) (by omega)
    show a % (n : Int) = ((a % (n : Int)).toNat : Int)
    omega
theorem byteRange {a : Int} (h : (Lit.int .u8 a).wf = true) : 0 ≤ a ∧ a ≤ 255 := by
  have h1 : IntKind.u8.min ≤ a ∧ a ≤ IntKind.u8.max := by simpa [Lit.wf] using h
  have e1 : IntKind.u8.min = 0 := rfl
  have e2 : IntKind.u8.max = 255 := rfl
  rw [e1, e2] at h1
  exact h1
end Go.Proofs.YtojgdbbjblaalaaDoor
