/- A part of the proof: an interpreter of the model's own code on partly known states, and that what it answers is what the program answers. No condition of its own. -/
import Derived.Test.YtpccllhgbbpocaaDoorDSeat
import Derived.Test.YtpccllhgbbpocaaDoorRows
import Derived.ChangeVars
import Derived.JoinedOf
import Derived.RowKit
import Derived.RowKitTokens
import Derived.LaidLaws
import Derived.LaidHandle
import Derived.Stop.Joined
import Derived.WalkKit
import Derived.ProofKit
import Derived.OpenShut
import Derived.Lay
import Derived.LaidOnce
namespace Go.Proofs.YtpccllhgbbpocaaDoor
open Go Go.AX Go.Proofs
open Go.ChangeShapes Go.WideShapes Go.ChangeAt Go.RowKit
set_option linter.unusedVariables false
set_option maxRecDepth 100000
theorem own : ownKnob Tryd.prog.godebug = none := by kernel_rfl
theorem et : Tryd.prog.globalNamed "errors.errorType" = some 0 := by kernel_rfl
theorem rt : (Tryd.prog.cutTypes.find? (·.1 == "internal/reflectlite.rtype")).map (·.2) = some 142 := by kernel_rfl
theorem oneRow : ((List.range Tryd.prog.types.size).filter fun t => Tryd.prog.rowNamed t [101, 114, 114, 111, 114]) = [30] := by kernel_rfl
theorem laidE_of {W : World} {laid : List (String × DataW Unit)} (hm : ("errors.errorType", Rows.laid_errors_errorType) ∈ laid) (h : handlesMet Tryd.prog laid W) : laidE W := by
  obtain ⟨name, u, ty, e1, e2, e3, e4, e5⟩ := h _ hm
  have en : name = [101, 114, 114, 111, 114] := (Option.some.inj e1).symm
  subst en
  obtain rfl := Option.some.inj (rt.symm.trans e2)
  have hm : ty ∈ (List.range Tryd.prog.types.size).filter fun t => Tryd.prog.rowNamed t [101, 114, 114, 111, 114] := List.mem_filter.2 ⟨List.mem_range.2 e3, e4⟩
  rw [oneRow] at hm
  obtain rfl := List.mem_singleton.1 hm
  unfold World.var? at e5
  rw [et] at e5
  simp only [Option.bind_some] at e5
  split at e5
  · rename_i cs t fz hc
    injection e5 with e5
    subst e5
    exact ⟨t, fz, hc⟩
  · cases e5
theorem laidMet_from {P : Program} {w0 : World} {laid : List (String × DataW Unit)} (args : Array Value)
    (hf : w0.layFits P laid [] = true)
    (hi : w0.layIfaces P laid (w0.layVars P laid) = true) :
    laidMet P laid ((w0.layVars P laid).forCall (fun _ _ => 0) ⟨#[], args, []⟩).memory := by
  have e1 : (laid.filter fun x => (laid.map (·.1)).contains x.1) = laid := List.filter_eq_self.2 fun x hx => List.contains_iff_mem.2 (List.mem_map.2 ⟨x, hx, rfl⟩)
  have e2 : (laid.filter fun x => !(laid.map (·.1)).contains x.1) = [] := List.filter_eq_nil_iff.2 fun x hx => by rw [List.contains_iff_mem.2 (List.mem_map.2 ⟨x, hx, rfl⟩)]; simp
  have h : laidMet P laid (w0.layVars P laid) := laidMet_layVars (w0 := w0) (laid.map (·.1)) [] (by rw [e1]) (by rw [e1]; exact hf) (by rw [e1]; exact hi) (by rw [e2]; exact LaidIn.none)
  exact h.of_heap (by simp [World.memory, World.forCall, Input.heap])
theorem remRun (P : Program) (t : TypeId) (a b : Int) (hb : b ≠ 0) (w : World) : (binOp .rem t (.int .u8 a) (.int .u8 b)).run P w = .ok (.int .u8 (a.tmod b)) w := by
  simp [binOp, Op.intDiv, hb]
theorem hRem {C : Cx} {i : Nat} {a b : Int} (hi : C.nu i = .int .u8 a) (hb : b ≠ 0) {r : AV} (hr : ∀ ρ, Rel C ρ r (.int .u8 (a.tmod b))) : HOk C (.bin .rem (.x i) (.i .u8 b)) r := by
  intro ρ vx vy hx hy'
  simp only [Rel] at hx hy'
  subst hx; subst hy'
  rw [hi]
  exact ⟨.inl ⟨.u8, a, b, rfl, rfl⟩, _, hr ρ, fun t w => remRun _ t a b hb w⟩
theorem hRemN {C : Cx} {i : Nat} {k : IntKind} {a b : Int} (hi : C.nu i = .int k a) (hb : b ≠ 0) {r : AV} (hr : ∀ ρ, Rel C ρ r (.int k (a.tmod b))) : HOk C (.bin .rem (.x i) (.i k b)) r := by
  intro ρ vx vy hx hy'
  simp only [Rel] at hx hy'
  subst hx; subst hy'
  rw [hi]
  exact ⟨.inl ⟨k, a, b, rfl, rfl⟩, _, hr ρ, fun t w => by simp [binOp, Op.intDiv, hb]⟩
theorem ik3 : Tryd.prog.underlying 3 = some (.int .i64) := by kernel_rfl
theorem conv3 (src : Nat) (k : IntKind) (n : Int) (w : World) (hs : (Tryd.prog.underlying src).isSome = true) : (convert src 3 (.int k n)).run Tryd.prog w = .ok (.int .i64 (IntKind.i64.wrap n)) w := by
  have hk : Tryd.prog.intKind 3 = .i64 := by kernel_rfl
  have := run_convert_int (P := Tryd.prog) w src 3 k n hs (by rw [hk]; exact ik3)
  rw [hk] at this; exact this
theorem wordRange {a : Int} (h : (Lit.int .u16 a).wf = true) : 0 ≤ a ∧ a ≤ 65535 := by
  have h1 : IntKind.u16.min ≤ a ∧ a ≤ IntKind.u16.max := by simpa [Lit.wf] using h
  have e1 : IntKind.u16.min = 0 := rfl
  have e2 : IntKind.u16.max = 65535 := rfl
  rw [e1, e2] at h1
  exact h1
theorem modNat {a : Int} {n : Nat} (h1 : 0 ≤ a) (hn : 0 < n) : ∃ i : Nat, i < n ∧ a.tmod (n : Int) = Int.ofNat i := by
  refine ⟨(a % (n : Int)).toNat, ?_, ?_⟩
  · have := Int.emod_lt_of_pos a (b := (n : Int)) (by omega)
    have := Int.emod_nonneg a (b := (n : Int)) (by omega)
    omega
  · rw [Int.tmod_eq_emod_of_nonneg h1]
    have := Int.emod_nonneg a (b := (n : Int)) (by omega)
    show a % (n : Int) = ((a % (n : Int)).toNat : Int)
    omega
theorem byteRange {a : Int} (h : (Lit.int .u8 a).wf = true) : 0 ≤ a ∧ a ≤ 255 := by
  have h1 : IntKind.u8.min ≤ a ∧ a ≤ IntKind.u8.max := by simpa [Lit.wf] using h
  have e1 : IntKind.u8.min = 0 := rfl
  have e2 : IntKind.u8.max = 255 := rfl
  rw [e1, e2] at h1
  exact h1
end Go.Proofs.YtpccllhgbbpocaaDoor
