/- A part of the proof: an interpreter of the model's own code on partly known states, and that what it answers is what the program answers. No condition of its own. -/
import Derived.Test.YtckjigiafmiieaaDoorA3RouteNamesR0
import Derived.Test.YtckjigiafmiieaaDoorA3RouteNamesR1
import Derived.Test.YtckjigiafmiieaaDoorA3RouteNamesR2
import Derived.Test.YtckjigiafmiieaaDoorA3RouteNamesR3
set_option maxRecDepth 100000
set_option linter.unusedVariables false
namespace Go.Proofs.YtckjigiafmiieaaDoor.routeNames
open Go Go.AX Go.Proofs Go.Proofs.YtckjigiafmiieaaDoor
theorem allRuns : ∀ i, i < 1152 → runI i = true := by
  intro i hi
  by_cases h575 : i < 575
  · by_cases h275 : i < 275
    · by_cases h125 : i < 125
      · by_cases h50 : i < 50
        · by_cases h25 : i < 25
          · exact allN_at (r0 ) i (by omega) (by omega)
          · exact allN_at (r25 ) i (by omega) (by omega)
        · by_cases h75 : i < 75
          · exact allN_at (r50 ) i (by omega) (by omega)
          · by_cases h100 : i < 100
            · exact allN_at (r75 ) i (by omega) (by omega)
            · exact allN_at (r100 ) i (by omega) (by omega)
      · by_cases h200 : i < 200
        · by_cases h150 : i < 150
          · exact allN_at (r125 ) i (by omega) (by omega)
          · by_cases h175 : i < 175
            · exact allN_at (r150 ) i (by omega) (by omega)
            · exact allN_at (r175 ) i (by omega) (by omega)
        · by_cases h225 : i < 225
          · exact allN_at (r200 ) i (by omega) (by omega)
          · by_cases h250 : i < 250
            · exact allN_at (r225 ) i (by omega) (by omega)
            · exact allN_at (r250 ) i (by omega) (by omega)
    · by_cases h425 : i < 425
      · by_cases h350 : i < 350
        · by_cases h300 : i < 300
          · exact allN_at (r275 ) i (by omega) (by omega)
          · by_cases h325 : i < 325
            · exact allN_at (r300 ) i (by omega) (by omega)
            · exact allN_at (r325 ) i (by omega) (by omega)
        · by_cases h375 : i < 375
          · exact allN_at (r350 ) i (by omega) (by omega)
          · by_cases h400 : i < 400
            · exact allN_at (r375 ) i (by omega) (by omega)
            · exact allN_at (r400 ) i (by omega) (by omega)
      · by_cases h500 : i < 500
        · by_cases h450 : i < 450
          · exact allN_at (r425 ) i (by omega) (by omega)
          · by_cases h475 : i < 475
            · exact allN_at (r450 ) i (by omega) (by omega)
            · exact allN_at (r475 ) i (by omega) (by omega)
        · by_cases h525 : i < 525
          · exact allN_at (r500 ) i (by omega) (by omega)
          · by_cases h550 : i < 550
            · exact allN_at (r525 ) i (by omega) (by omega)
            · exact allN_at (r550 ) i (by omega) (by omega)
  · by_cases h875 : i < 875
    · by_cases h725 : i < 725
      · by_cases h650 : i < 650
        · by_cases h600 : i < 600
          · exact allN_at (r575 ) i (by omega) (by omega)
          · by_cases h625 : i < 625
            · exact allN_at (r600 ) i (by omega) (by omega)
            · exact allN_at (r625 ) i (by omega) (by omega)
        · by_cases h675 : i < 675
          · exact allN_at (r650 ) i (by omega) (by omega)
          · by_cases h700 : i < 700
            · exact allN_at (r675 ) i (by omega) (by omega)
            · exact allN_at (r700 ) i (by omega) (by omega)
      · by_cases h800 : i < 800
        · by_cases h750 : i < 750
          · exact allN_at (r725 ) i (by omega) (by omega)
          · by_cases h775 : i < 775
            · exact allN_at (r750 ) i (by omega) (by omega)
            · exact allN_at (r775 ) i (by omega) (by omega)
        · by_cases h825 : i < 825
          · exact allN_at (r800 ) i (by omega) (by omega)
          · by_cases h850 : i < 850
            · exact allN_at (r825 ) i (by omega) (by omega)
            · exact allN_at (r850 ) i (by omega) (by omega)
    · by_cases h1025 : i < 1025
      · by_cases h950 : i < 950
        · by_cases h900 : i < 900
          · exact allN_at (r875 ) i (by omega) (by omega)
          · by_cases h925 : i < 925
            · exact allN_at (r900 ) i (by omega) (by omega)
            · exact allN_at (r925 ) i (by omega) (by omega)
        · by_cases h975 : i < 975
          · exact allN_at (r950 ) i (by omega) (by omega)
          · by_cases h1000 : i < 1000
            · exact allN_at (r975 ) i (by omega) (by omega)
            · exact allN_at (r1000 ) i (by omega) (by omega)
      · by_cases h1100 : i < 1100
        · by_cases h1050 : i < 1050
          · exact allN_at (r1025 ) i (by omega) (by omega)
          · by_cases h1075 : i < 1075
            · exact allN_at (r1050 ) i (by omega) (by omega)
            · exact allN_at (r1075 ) i (by omega) (by omega)
        · by_cases h1125 : i < 1125
          · exact allN_at (r1100 ) i (by omega) (by omega)
          · by_cases h1150 : i < 1150
            · exact allN_at (r1125 ) i (by omega) (by omega)
            · exact allN_at (r1150 ) i (by omega) (by omega)
theorem runs (c0 : Nat) (c1 : Nat) (c2 : Nat) (h0 : c0 < 6) (h1 : c1 < 64) (h2 : c2 < 3) : run c0 c1 c2 = true := by
  have h := allRuns ((c0 + 6 * (c1 + 64 * c2))) (by omega)
  unfold runI at h
  have e0 : Nat.mod ((c0 + 6 * (c1 + 64 * c2))) 6 = c0 := by show ((c0 + 6 * (c1 + 64 * c2))) % 6 = c0; omega
  have d0 : Nat.div ((c0 + 6 * (c1 + 64 * c2))) 6 = (c1 + 64 * c2) := by show ((c0 + 6 * (c1 + 64 * c2))) / 6 = (c1 + 64 * c2); omega
  rw [e0, d0] at h
  have e1 : Nat.mod ((c1 + 64 * c2)) 64 = c1 := by show ((c1 + 64 * c2)) % 64 = c1; omega
  have d1 : Nat.div ((c1 + 64 * c2)) 64 = c2 := by show ((c1 + 64 * c2)) / 64 = c2; omega
  rw [e1, d1] at h
  have e2 : Nat.mod (c2) 3 = c2 := by show (c2) % 3 = c2; omega
  rw [e2] at h
  exact h
def nu (x0 : Nat) (x1 : Nat) (x2 : Nat) : Nat → Value
  | 0 => .int .u8 (.ofNat x0)
  | 100 => .int .u16 (.ofNat x1)
  | 101 => .int .u16 (.ofNat (x1 >>> 0))
  | 102 => .int .u16 (.ofNat (x1 >>> 1))
  | 103 => .int .u16 (.ofNat (x1 >>> 2))
  | 104 => .int .u16 (.ofNat (x1 >>> 3))
  | 105 => .int .u16 (.ofNat (x1 >>> 4))
  | 106 => .int .u16 (.ofNat (x1 >>> 5))
  | 200 => .int .u8 (.ofNat x2)
  | _ => .bool true
theorem nu_one (x0 : Nat) (x1 : Nat) (x2 : Nat) : ∀ i, (nu x0 x1 x2 i).oneCell' = true := by
  intro i; unfold nu; split <;> rfl
theorem hyOk (x0 : Nat) (x1 : Nat) (x2 : Nat) (c0 : Nat) (c1 : Nat) (c2 : Nat) (hc0 : x0 % 6 = c0) (hx0 : x0 ≤ 255) (hc1 : x1 % 64 = c1) (hx1 : x1 ≤ 65535) (hc2 : x2 % 3 = c2) (hx2 : x2 ≤ 255) : ∀ k r, (k, r) ∈ hy c0 c1 c2 → HOk (cx (nu x0 x1 x2) (nu_one x0 x1 x2) 0 laidE laidE_stab) k r := by
  intro k r h
  simp only [hy, List.mem_cons, List.not_mem_nil, or_false, Prod.mk.injEq] at h
  rcases h with ⟨rfl, rfl⟩ | ⟨rfl, rfl⟩ | ⟨rfl, rfl⟩ | ⟨rfl, rfl⟩ | ⟨rfl, rfl⟩ | ⟨rfl, rfl⟩ | ⟨rfl, rfl⟩ | ⟨rfl, rfl⟩ | ⟨rfl, rfl⟩ | ⟨rfl, rfl⟩ | ⟨rfl, rfl⟩ | ⟨rfl, rfl⟩ | ⟨rfl, rfl⟩ | ⟨rfl, rfl⟩
  · exact hRemX (x := x0) rfl (by omega) hc0
  · exact hShrX rfl (by decide) rfl
  · exact hAndX (x := x1 >>> 0) rfl (fitsShr hx1 0) rfl (fitsBit _) (bitOfG (b := 6) hc1 0 (by omega))
  · exact hShrX rfl (by decide) rfl
  · exact hAndX (x := x1 >>> 1) rfl (fitsShr hx1 1) rfl (fitsBit _) (bitOfG (b := 6) hc1 1 (by omega))
  · exact hShrX rfl (by decide) rfl
  · exact hAndX (x := x1 >>> 2) rfl (fitsShr hx1 2) rfl (fitsBit _) (bitOfG (b := 6) hc1 2 (by omega))
  · exact hShrX rfl (by decide) rfl
  · exact hAndX (x := x1 >>> 3) rfl (fitsShr hx1 3) rfl (fitsBit _) (bitOfG (b := 6) hc1 3 (by omega))
  · exact hShrX rfl (by decide) rfl
  · exact hAndX (x := x1 >>> 4) rfl (fitsShr hx1 4) rfl (fitsBit _) (bitOfG (b := 6) hc1 4 (by omega))
  · exact hShrX rfl (by decide) rfl
  · exact hAndX (x := x1 >>> 5) rfl (fitsShr hx1 5) rfl (fitsBit _) (bitOfG (b := 6) hc1 5 (by omega))
  · exact hRemX (x := x2) rfl (by omega) hc2
theorem walk (a0 : Int) (a1 : Int) (a2 : Int) (w0 : (Lit.int .u8 a0).wf = true) (w1 : (Lit.int .u16 a1).wf = true) (w2 : (Lit.int .u8 a2).wf = true) (w : World) (hl : laidE w) :
    Calls Tryd.prog 8 #[.int .u8 a0, .int .u16 a1, .int .u8 a2] w fun e w' => e = .returned (.bool true) ∧ Go.AX.Below w.heap.size w w' := by
  obtain ⟨fi, hfi, hb⟩ : ∃ fi, tabk.fn.get 8 = some fi ∧ fi.body.isSome = true := ⟨_, rfl, by kernel_rfl⟩
  obtain ⟨x0, rfl, hx0⟩ := natOf (M := 255) w0 rfl rfl
  obtain ⟨x1, rfl, hx1⟩ := natOf (M := 65535) w1 rfl rfl
  obtain ⟨x2, rfl, hx2⟩ := natOf (M := 255) w2 rfl rfl
  have hall : AllOk (cx (nu x0 x1 x2) (nu_one x0 x1 x2) 0 laidE laidE_stab) (tabC (x0 % 6) (x1 % 64) (x2 % 3)) := (tabkOk (nu x0 x1 x2) (nu_one x0 x1 x2)).hyps (hyOk x0 x1 x2 _ _ _ rfl hx0 rfl hx1 rfl hx2)
  exact runD hall rfl hfi hb (runs (x0 % 6) (x1 % 64) (x2 % 3) (Nat.mod_lt _ (by omega)) (Nat.mod_lt _ (by omega)) (Nat.mod_lt _ (by omega))) (args := [.int .u8 (.ofNat x0), .int .u16 (.ofNat x1), .int .u8 (.ofNat x2)]) (by simp only [RelL, Rel]; exact ⟨_, _, rfl, rfl, ⟨_, _, rfl, rfl, ⟨_, _, rfl, rfl, rfl⟩⟩⟩) w hl
end Go.Proofs.YtckjigiafmiieaaDoor.routeNames
