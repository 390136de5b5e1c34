/- A part of the proof: an interpreter of the model's own code on partly known states, and that what it answers is what the program answers. No condition of its own. -/
import Derived.Test.YtckjigiafmiieaaDoorA3RouteFirstR0
import Derived.Test.YtckjigiafmiieaaDoorA3RouteFirstR1
import Derived.Test.YtckjigiafmiieaaDoorA3RouteFirstR2
set_option maxRecDepth 100000
set_option linter.unusedVariables false
namespace Go.Proofs.YtckjigiafmiieaaDoor.routeFirst
open Go Go.AX Go.Proofs Go.Proofs.YtckjigiafmiieaaDoor
theorem allRuns : ∀ i, i < 72 → runI i = true := by
  intro i hi
  by_cases h32 : i < 32
  · exact allN_at (r0 ) i (by omega) (by omega)
  · by_cases h64 : i < 64
    · exact allN_at (r32 ) i (by omega) (by omega)
    · exact allN_at (r64 ) i (by omega) (by omega)
theorem runs (c0 : Nat) (c1 : Nat) (b2 : Bool) (h0 : c0 < 6) (h1 : c1 < 6) : run c0 c1 b2 = true := by
  have hb2 := nOf_lt b2
  have h := allRuns ((c0 + 6 * (c1 + 6 * nOf b2))) (by omega)
  unfold runI at h
  have e0 : Nat.mod ((c0 + 6 * (c1 + 6 * nOf b2))) 6 = c0 := by show ((c0 + 6 * (c1 + 6 * nOf b2))) % 6 = c0; omega
  have d0 : Nat.div ((c0 + 6 * (c1 + 6 * nOf b2))) 6 = (c1 + 6 * nOf b2) := by show ((c0 + 6 * (c1 + 6 * nOf b2))) / 6 = (c1 + 6 * nOf b2); omega
  rw [e0, d0] at h
  have e1 : Nat.mod ((c1 + 6 * nOf b2)) 6 = c1 := by show ((c1 + 6 * nOf b2)) % 6 = c1; omega
  have d1 : Nat.div ((c1 + 6 * nOf b2)) 6 = nOf b2 := by show ((c1 + 6 * nOf b2)) / 6 = nOf b2; omega
  rw [e1, d1] at h
  have e2 : Nat.mod (nOf b2) 2 = nOf b2 := by show (nOf b2) % 2 = nOf b2; omega
  rw [e2, bOf_nOf] at h
  exact h
def nu (x0 : Nat) (x1 : Nat) : Nat → Value
  | 0 => .int .u8 (.ofNat x0)
  | 100 => .int .u8 (.ofNat x1)
  | _ => .bool true
theorem nu_one (x0 : Nat) (x1 : Nat) : ∀ i, (nu x0 x1 i).oneCell' = true := by
  intro i; unfold nu; split <;> rfl
theorem hyOk (x0 : Nat) (x1 : Nat) (c0 : Nat) (c1 : Nat) (hc0 : x0 % 6 = c0) (hx0 : x0 ≤ 255) (hc1 : x1 % 6 = c1) (hx1 : x1 ≤ 255) : ∀ k r, (k, r) ∈ hy c0 c1 → HOk (cx (nu x0 x1) (nu_one x0 x1) 0 laidE laidE_stab) k r := by
  intro k r h
  simp only [hy, List.mem_cons, List.not_mem_nil, or_false, Prod.mk.injEq] at h
  rcases h with ⟨rfl, rfl⟩ | ⟨rfl, rfl⟩
  · exact hRemX (x := x0) rfl (by omega) hc0
  · exact hRemX (x := x1) rfl (by omega) hc1
theorem walk (a0 : Int) (a1 : Int) (a2 : Bool) (w0 : (Lit.int .u8 a0).wf = true) (w1 : (Lit.int .u8 a1).wf = true) (w : World) (hl : laidE w) :
    Calls Tryd.prog 7 #[.int .u8 a0, .int .u8 a1, .bool a2] w fun e w' => e = .returned (.bool true) ∧ Go.AX.Below w.heap.size w w' := by
  obtain ⟨fi, hfi, hb⟩ : ∃ fi, tabk.fn.get 7 = some fi ∧ fi.body.isSome = true := ⟨_, rfl, by kernel_rfl⟩
  obtain ⟨x0, rfl, hx0⟩ := natOf (M := 255) w0 rfl rfl
  obtain ⟨x1, rfl, hx1⟩ := natOf (M := 255) w1 rfl rfl
  have hall : AllOk (cx (nu x0 x1) (nu_one x0 x1) 0 laidE laidE_stab) (tabC (x0 % 6) (x1 % 6)) := (tabkOk (nu x0 x1) (nu_one x0 x1)).hyps (hyOk x0 x1 _ _ rfl hx0 rfl hx1)
  exact runD hall rfl hfi hb (runs (x0 % 6) (x1 % 6) a2 (Nat.mod_lt _ (by omega)) (Nat.mod_lt _ (by omega))) (args := [.int .u8 (.ofNat x0), .int .u8 (.ofNat x1), .bool a2]) (by simp only [RelL, Rel]; exact ⟨_, _, rfl, rfl, ⟨_, _, rfl, rfl, ⟨_, _, rfl, rfl, rfl⟩⟩⟩) w hl
end Go.Proofs.YtckjigiafmiieaaDoor.routeFirst
