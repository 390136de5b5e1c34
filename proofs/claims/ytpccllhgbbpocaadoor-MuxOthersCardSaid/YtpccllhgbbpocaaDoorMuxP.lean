/- A part of the proof: an interpreter of the model's own code on partly known states, and that what it answers is what the program answers. No condition of its own. -/
import Derived.Test.YtpccllhgbbpocaaDoorMuxA
import Derived.Test.YtpccllhgbbpocaaDoorMuxB
import Derived.Test.YtpccllhgbbpocaaDoorMuxC
import Derived.Test.YtpccllhgbbpocaaDoorMuxD
import Derived.Test.YtpccllhgbbpocaaDoorRows
import Derived.ChangeVars
import Derived.JoinedOf
import Derived.RowKit
import Derived.RowKitTokens
import Derived.LaidLaws
import Derived.LaidHandle
import Derived.Stop.Joined
import Derived.WalkKit
import Derived.ProofKit
import Derived.OpenShut
namespace Go.Proofs.YtpccllhgbbpocaaDoor
open Go Go.AX Go.Proofs
open Go.ChangeShapes Go.WideShapes Go.ChangeAt Go.RowKit
set_option linter.unusedVariables false
set_option maxRecDepth 100000
theorem own : ownKnob Tryd.prog.godebug = none := by kernel_rfl
theorem et : Tryd.prog.globalNamed "errors.errorType" = some 0 := by kernel_rfl
theorem rt : (Tryd.prog.cutTypes.find? (·.1 == "internal/reflectlite.rtype")).map (·.2) = some 142 := by kernel_rfl
theorem oneRow : ((List.range Tryd.prog.types.size).filter fun t => Tryd.prog.rowNamed t [101, 114, 114, 111, 114]) = [30] := by kernel_rfl
theorem laidE_of {W : World} {laid : List (String × DataW Unit)} (hm : ("errors.errorType", Rows.laid_errors_errorType) ∈ laid) (h : handlesMet Tryd.prog laid W) : laidE W := by
  obtain ⟨name, u, ty, e1, e2, e3, e4, e5⟩ := h _ hm
  have en : name = [101, 114, 114, 111, 114] := (Option.some.inj e1).symm
  subst en
  obtain rfl := Option.some.inj (rt.symm.trans e2)
  have hm : ty ∈ (List.range Tryd.prog.types.size).filter fun t => Tryd.prog.rowNamed t [101, 114, 114, 111, 114] := List.mem_filter.2 ⟨List.mem_range.2 e3, e4⟩
  rw [oneRow] at hm
  obtain rfl := List.mem_singleton.1 hm
  unfold World.var? at e5
  rw [et] at e5
  simp only [Option.bind_some] at e5
  split at e5
  · rename_i cs t fz hc
    injection e5 with e5
    subst e5
    exact ⟨t, fz, hc⟩
  · cases e5
theorem remRun (P : Program) (t : TypeId) (a b : Int) (hb : b ≠ 0) (w : World) : (binOp .rem t (.int .u8 a) (.int .u8 b)).run P w = .ok (.int .u8 (a.tmod b)) w := by
  simp [binOp, Op.intDiv, hb]
theorem hRem {C : Cx} {i : Nat} {a b : Int} (hi : C.nu i = .int .u8 a) (hb : b ≠ 0) {r : AV} (hr : ∀ ρ, Rel C ρ r (.int .u8 (a.tmod b))) : HOk C (.bin .rem (.x i) (.i .u8 b)) r := by
  intro ρ vx vy hx hy'
  simp only [Rel] at hx hy'
  subst hx; subst hy'
  rw [hi]
  exact ⟨.inl ⟨.u8, a, b, rfl, rfl⟩, _, hr ρ, fun t w => remRun _ t a b hb w⟩
theorem ik3 : Tryd.prog.underlying 3 = some (.int .i64) := by kernel_rfl
theorem conv3 (src : Nat) (k : IntKind) (n : Int) (w : World) (hs : (Tryd.prog.underlying src).isSome = true) : (convert src 3 (.int k n)).run Tryd.prog w = .ok (.int .i64 (IntKind.i64.wrap n)) w := by
  have hk : Tryd.prog.intKind 3 = .i64 := by kernel_rfl
  have := run_convert_int (P := Tryd.prog) w src 3 k n hs (by rw [hk]; exact ik3)
  rw [hk] at this; exact this
theorem byteRange {a : Int} (h : (Lit.int .u8 a).wf = true) : 0 ≤ a ∧ a ≤ 255 := by
  have h1 : IntKind.u8.min ≤ a ∧ a ≤ IntKind.u8.max := by simpa [Lit.wf] using h
  have e1 : IntKind.u8.min = 0 := rfl
  have e2 : IntKind.u8.max = 255 := rfl
  rw [e1, e2] at h1
  exact h1
namespace muxOthers
def nu (a0 a1 : Int) : Nat → Value
  | 0 => .int .u8 a0
  | 1 => .int .u8 a1
  | 2 => .int .u8 (a1.tmod 4)
  | _ => .int .i64 (IntKind.i64.wrap (a1.tmod 4))
theorem nu_one (a0 a1 : Int) : ∀ i, (nu a0 a1 i).oneCell' = true
  | 0 => rfl
  | 1 => rfl
  | 2 => rfl
  | _ + 3 => rfl
theorem hyFOk (a0 a1 : Int) : ∀ k r, (k, r) ∈ hyF (a0.tmod 13) (a1.tmod 4) → HOk (cx (nu a0 a1) (nu_one a0 a1) 1 laidE laidE_stab) k r := by
  intro k r h
  simp only [hyF, List.mem_cons, List.not_mem_nil, or_false, Prod.mk.injEq] at h
  rcases h with ⟨rfl, rfl⟩ | ⟨rfl, rfl⟩
  · exact hRem (a := a0) rfl (by omega) fun ρ => by simp only [Rel]
  · exact hRem (a := a1) rfl (by omega) fun ρ => by simp only [Rel]
theorem hyTOk (a0 a1 : Int) : ∀ k r, (k, r) ∈ hyT (a0.tmod 13) → HOk (cx (nu a0 a1) (nu_one a0 a1) 1 laidE laidE_stab) k r := by
  intro k r h
  simp only [hyT, List.mem_cons, List.not_mem_nil, or_false, Prod.mk.injEq] at h
  rcases h with ⟨rfl, rfl⟩ | ⟨rfl, rfl⟩ | ⟨rfl, rfl⟩
  · exact hRem (a := a0) rfl (by omega) fun ρ => by simp only [Rel]
  · exact hRem (a := a1) rfl (by omega) fun ρ => by simp only [Rel]; rfl
  · intro ρ vx hx
    simp only [Rel] at hx
    subst hx
    exact ⟨.inl ⟨.u8, _, rfl⟩, .int .i64 (IntKind.i64.wrap (a1.tmod 4)), by simp only [Rel]; rfl, fun src w hs => conv3 src .u8 _ w hs⟩
theorem mod13 {a : Int} (h : (Lit.int .u8 a).wf = true) : 0 ≤ a.tmod 13 ∧ a.tmod 13 < 13 := by
  obtain ⟨h1, h2⟩ := byteRange h
  rw [Int.tmod_eq_emod_of_nonneg h1]; omega
theorem mod4 {a : Int} (h : (Lit.int .u8 a).wf = true) : 0 ≤ a.tmod 4 ∧ a.tmod 4 < 4 := by
  obtain ⟨h1, h2⟩ := byteRange h
  rw [Int.tmod_eq_emod_of_nonneg h1]; omega
theorem runsF {a b : Int} (ha : 0 ≤ a ∧ a < 13) (hb : 0 ≤ b ∧ b < 4) (e : Nat) : runF e a b := by
  have ha' : a = 0 ∨ a = 1 ∨ a = 2 ∨ a = 3 ∨ a = 4 ∨ a = 5 ∨ a = 6 ∨ a = 7 ∨ a = 8 ∨ a = 9 ∨ a = 10 ∨ a = 11 ∨ a = 12 := by omega
  have hb' : b = 0 ∨ b = 1 ∨ b = 2 ∨ b = 3 := by omega
  rcases ha' with rfl | rfl | rfl | rfl | rfl | rfl | rfl | rfl | rfl | rfl | rfl | rfl | rfl <;> rcases hb' with rfl | rfl | rfl | rfl
  · exact f0_0 e
  · exact f0_1 e
  · exact f0_2 e
  · exact f0_3 e
  · exact f1_0 e
  · exact f1_1 e
  · exact f1_2 e
  · exact f1_3 e
  · exact f2_0 e
  · exact f2_1 e
  · exact f2_2 e
  · exact f2_3 e
  · exact f3_0 e
  · exact f3_1 e
  · exact f3_2 e
  · exact f3_3 e
  · exact f4_0 e
  · exact f4_1 e
  · exact f4_2 e
  · exact f4_3 e
  · exact f5_0 e
  · exact f5_1 e
  · exact f5_2 e
  · exact f5_3 e
  · exact f6_0 e
  · exact f6_1 e
  · exact f6_2 e
  · exact f6_3 e
  · exact f7_0 e
  · exact f7_1 e
  · exact f7_2 e
  · exact f7_3 e
  · exact f8_0 e
  · exact f8_1 e
  · exact f8_2 e
  · exact f8_3 e
  · exact f9_0 e
  · exact f9_1 e
  · exact f9_2 e
  · exact f9_3 e
  · exact f10_0 e
  · exact f10_1 e
  · exact f10_2 e
  · exact f10_3 e
  · exact f11_0 e
  · exact f11_1 e
  · exact f11_2 e
  · exact f11_3 e
  · exact f12_0 e
  · exact f12_1 e
  · exact f12_2 e
  · exact f12_3 e
theorem runsT {a : Int} (ha : 0 ≤ a ∧ a < 13) (e : Nat) : runT e a := by
  have ha' : a = 0 ∨ a = 1 ∨ a = 2 ∨ a = 3 ∨ a = 4 ∨ a = 5 ∨ a = 6 ∨ a = 7 ∨ a = 8 ∨ a = 9 ∨ a = 10 ∨ a = 11 ∨ a = 12 := by omega
  rcases ha' with rfl | rfl | rfl | rfl | rfl | rfl | rfl | rfl | rfl | rfl | rfl | rfl | rfl
  · exact t0 e
  · exact t1 e
  · exact t2 e
  · exact t3 e
  · exact t4 e
  · exact t5 e
  · exact t6 e
  · exact t7 e
  · exact t8 e
  · exact t9 e
  · exact t10 e
  · exact t11 e
  · exact t12 e
theorem walk (a0 : Int) (a1 : Int) (a2 : Bool) (w0 : (Lit.int .u8 a0).wf = true) (w1 : (Lit.int .u8 a1).wf = true) (w : World) (hl : laidE w) :
    Calls Tryd.prog 10 #[.int .u8 a0, .int .u8 a1, .bool a2] w fun e w' => e = .returned (.bool true) ∧ Below w.heap.size w w' := by
  obtain ⟨fi, hfi, hb⟩ : ∃ fi, tab20.fn.get 10 = some fi ∧ fi.body.isSome = true := ⟨_, rfl, by kernel_rfl⟩
  cases a2 with
  | false =>
    have hall : AllOk (cx (nu a0 a1) (nu_one a0 a1) 1 laidE laidE_stab) (tabF (a0.tmod 13) (a1.tmod 4)) := (tab20Ok (nu a0 a1) (nu_one a0 a1)).hyps (hyFOk a0 a1)
    exact runD hall rfl hfi hb (fun e => runsF (mod13 w0) (mod4 w1) e) (args := [.int .u8 a0, .int .u8 a1, .bool false]) (by simp only [RelL, Rel]; exact ⟨_, _, rfl, rfl, _, _, rfl, rfl, _, _, rfl, rfl, rfl⟩) w hl
  | true =>
    have hall : AllOk (cx (nu a0 a1) (nu_one a0 a1) 1 laidE laidE_stab) (tabT (a0.tmod 13)) := (tab20Ok (nu a0 a1) (nu_one a0 a1)).hyps (hyTOk a0 a1)
    exact runD hall rfl hfi hb (fun e => runsT (mod13 w0) e) (args := [.int .u8 a0, .int .u8 a1, .bool true]) (by simp only [RelL, Rel]; exact ⟨_, _, rfl, rfl, _, _, rfl, rfl, _, _, rfl, rfl, rfl⟩) w hl
end muxOthers
end Go.Proofs.YtpccllhgbbpocaaDoor
