/- A part of the proof: an interpreter of the model's own code on partly known states, and that what it answers is what the program answers. No condition of its own. -/
import Derived.Test.YtlemmcoefpcpmaaDoorA1PathDotsR0
import Derived.Test.YtlemmcoefpcpmaaDoorA1PathDotsR1
import Derived.Test.YtlemmcoefpcpmaaDoorA1PathDotsR2
import Derived.Test.YtlemmcoefpcpmaaDoorA1PathDotsR3
set_option maxRecDepth 100000
set_option linter.unusedVariables false
namespace Go.Proofs.YtlemmcoefpcpmaaDoor.pathDots
open Go Go.AX Go.Proofs Go.Proofs.YtlemmcoefpcpmaaDoor
theorem allRuns : ∀ i, i < 200 → runI i = true := by
  intro i hi
  by_cases h98 : i < 98
  · by_cases h49 : i < 49
    · by_cases h21 : i < 21
      · by_cases h7 : i < 7
        · exact allN_at (r0 ) i (by omega) (by omega)
        · by_cases h14 : i < 14
          · exact allN_at (r7 ) i (by omega) (by omega)
          · exact allN_at (r14 ) i (by omega) (by omega)
      · by_cases h35 : i < 35
        · by_cases h28 : i < 28
          · exact allN_at (r21 ) i (by omega) (by omega)
          · exact allN_at (r28 ) i (by omega) (by omega)
        · by_cases h42 : i < 42
          · exact allN_at (r35 ) i (by omega) (by omega)
          · exact allN_at (r42 ) i (by omega) (by omega)
    · by_cases h70 : i < 70
      · by_cases h56 : i < 56
        · exact allN_at (r49 ) i (by omega) (by omega)
        · by_cases h63 : i < 63
          · exact allN_at (r56 ) i (by omega) (by omega)
          · exact allN_at (r63 ) i (by omega) (by omega)
      · by_cases h84 : i < 84
        · by_cases h77 : i < 77
          · exact allN_at (r70 ) i (by omega) (by omega)
          · exact allN_at (r77 ) i (by omega) (by omega)
        · by_cases h91 : i < 91
          · exact allN_at (r84 ) i (by omega) (by omega)
          · exact allN_at (r91 ) i (by omega) (by omega)
  · by_cases h147 : i < 147
    · by_cases h119 : i < 119
      · by_cases h105 : i < 105
        · exact allN_at (r98 ) i (by omega) (by omega)
        · by_cases h112 : i < 112
          · exact allN_at (r105 ) i (by omega) (by omega)
          · exact allN_at (r112 ) i (by omega) (by omega)
      · by_cases h133 : i < 133
        · by_cases h126 : i < 126
          · exact allN_at (r119 ) i (by omega) (by omega)
          · exact allN_at (r126 ) i (by omega) (by omega)
        · by_cases h140 : i < 140
          · exact allN_at (r133 ) i (by omega) (by omega)
          · exact allN_at (r140 ) i (by omega) (by omega)
    · by_cases h175 : i < 175
      · by_cases h161 : i < 161
        · by_cases h154 : i < 154
          · exact allN_at (r147 ) i (by omega) (by omega)
          · exact allN_at (r154 ) i (by omega) (by omega)
        · by_cases h168 : i < 168
          · exact allN_at (r161 ) i (by omega) (by omega)
          · exact allN_at (r168 ) i (by omega) (by omega)
      · by_cases h189 : i < 189
        · by_cases h182 : i < 182
          · exact allN_at (r175 ) i (by omega) (by omega)
          · exact allN_at (r182 ) i (by omega) (by omega)
        · by_cases h196 : i < 196
          · exact allN_at (r189 ) i (by omega) (by omega)
          · exact allN_at (r196 ) i (by omega) (by omega)
theorem runs (c0 : Nat) (c1 : Nat) (b2 : Bool) (h0 : c0 < 10) (h1 : c1 < 10) : run c0 c1 b2 = true := by
  have hb2 := nOf_lt b2
  have h := allRuns ((c0 + 10 * (c1 + 10 * nOf b2))) (by omega)
  unfold runI at h
  have e0 : Nat.mod ((c0 + 10 * (c1 + 10 * nOf b2))) 10 = c0 := by show ((c0 + 10 * (c1 + 10 * nOf b2))) % 10 = c0; omega
  have d0 : Nat.div ((c0 + 10 * (c1 + 10 * nOf b2))) 10 = (c1 + 10 * nOf b2) := by show ((c0 + 10 * (c1 + 10 * nOf b2))) / 10 = (c1 + 10 * nOf b2); omega
  rw [e0, d0] at h
  have e1 : Nat.mod ((c1 + 10 * nOf b2)) 10 = c1 := by show ((c1 + 10 * nOf b2)) % 10 = c1; omega
  have d1 : Nat.div ((c1 + 10 * nOf b2)) 10 = nOf b2 := by show ((c1 + 10 * nOf b2)) / 10 = nOf b2; omega
  rw [e1, d1] at h
  have e2 : Nat.mod (nOf b2) 2 = nOf b2 := by show (nOf b2) % 2 = nOf b2; omega
  rw [e2, bOf_nOf] at h
  exact h
def nu (x0 : Nat) (x1 : Nat) : Nat → Value
  | 0 => .int .u8 (.ofNat x0)
  | 100 => .int .u8 (.ofNat x1)
  | _ => .bool true
theorem nu_one (x0 : Nat) (x1 : Nat) : ∀ i, (nu x0 x1 i).oneCell' = true := by
  intro i; unfold nu; split <;> rfl
theorem hyOk (x0 : Nat) (x1 : Nat) (c0 : Nat) (c1 : Nat) (hc0 : x0 % 10 = c0) (hx0 : x0 ≤ 255) (hc1 : x1 % 10 = c1) (hx1 : x1 ≤ 255) : ∀ k r, (k, r) ∈ hy c0 c1 → HOk (cx (nu x0 x1) (nu_one x0 x1) 0 laidE laidE_stab) k r := by
  intro k r h
  simp only [hy, List.mem_cons, List.not_mem_nil, or_false, Prod.mk.injEq] at h
  rcases h with ⟨rfl, rfl⟩ | ⟨rfl, rfl⟩
  · exact hRemX (x := x0) rfl (by omega) hc0
  · exact hRemX (x := x1) rfl (by omega) hc1
theorem walk (a0 : Int) (a1 : Int) (a2 : Bool) (w0 : (Lit.int .u8 a0).wf = true) (w1 : (Lit.int .u8 a1).wf = true) (w : World) (hl : laidE w) :
    Calls Tryd.prog 8 #[.int .u8 a0, .int .u8 a1, .bool a2] w fun e w' => e = .returned (.bool true) ∧ Go.AX.Below w.heap.size w w' := by
  obtain ⟨fi, hfi, hb⟩ : ∃ fi, tabk.fn.get 8 = some fi ∧ fi.body.isSome = true := ⟨_, rfl, by kernel_rfl⟩
  obtain ⟨x0, rfl, hx0⟩ := natOf (M := 255) w0 rfl rfl
  obtain ⟨x1, rfl, hx1⟩ := natOf (M := 255) w1 rfl rfl
  have hall : AllOk (cx (nu x0 x1) (nu_one x0 x1) 0 laidE laidE_stab) (tabC (x0 % 10) (x1 % 10)) := (tabkOk (nu x0 x1) (nu_one x0 x1)).hyps (hyOk x0 x1 _ _ rfl hx0 rfl hx1)
  exact runD hall rfl hfi hb (runs (x0 % 10) (x1 % 10) a2 (Nat.mod_lt _ (by omega)) (Nat.mod_lt _ (by omega))) (args := [.int .u8 (.ofNat x0), .int .u8 (.ofNat x1), .bool a2]) (by simp only [RelL, Rel]; exact ⟨_, _, rfl, rfl, ⟨_, _, rfl, rfl, ⟨_, _, rfl, rfl, rfl⟩⟩⟩) w hl
end Go.Proofs.YtlemmcoefpcpmaaDoor.pathDots
