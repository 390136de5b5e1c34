/- A part of the proof: an interpreter of the model's own code on partly known states, and that what it answers is what the program answers. No condition of its own. -/
import Derived.Test.YtpccllhgbbpocaaFrA
import Derived.Test.YtpccllhgbbpocaaFrB
import Derived.Test.YtpccllhgbbpocaaFrC
import Derived.Test.YtpccllhgbbpocaaFrD
import Derived.Test.YtpccllhgbbpocaaFrE
import Derived.Test.YtpccllhgbbpocaaFrF
import Derived.Test.YtpccllhgbbpocaaFrG
import Derived.Test.YtpccllhgbbpocaaFrH
set_option maxRecDepth 100000
set_option linter.unusedVariables false
namespace Go.Proofs.Ytpccllhgbbpocaa
open Go Go.AX Go.Proofs
open Go.RowKit (Below)
namespace framesSizes
def nu (a0 : Int) : Nat → Value := fun _ => .int .u16 a0
theorem nu_one (a0 : Int) : ∀ i, (nu a0 i).oneCell' = true := fun _ => rfl
theorem hRemN {C : Cx} {i : Nat} {k : IntKind} {a b : Int} (hi : C.nu i = .int k a) (hb : b ≠ 0) {r : AV} (hr : ∀ ρ, Rel C ρ r (.int k (a.tmod b))) : HOk C (.bin .rem (.x i) (.i k b)) r := by
  intro ρ vx vy hx hy'
  simp only [Rel] at hx hy'
  subst hx; subst hy'
  rw [hi]
  exact ⟨.inl ⟨k, a, b, rfl, rfl⟩, _, hr ρ, fun t w => by simp [binOp, Op.intDiv, hb]⟩
theorem hyOk (a0 : Int) (i : Nat) (hi : a0.tmod 3000 = Int.ofNat i) : ∀ k r, (k, r) ∈ hy i → HOk (cx (nu a0) (nu_one a0) 0 (fun _ => True) noStab) k r := by
  intro k r h
  simp only [hy, List.mem_cons, List.not_mem_nil, or_false, Prod.mk.injEq] at h
  obtain ⟨rfl, rfl⟩ := h
  exact hRemN (k := .u16) (a := a0) rfl (by omega) fun ρ => by rw [hi]; simp only [Rel]
theorem wordMod {a : Int} (h : (Lit.int .u16 a).wf = true) : ∃ i : Nat, i < 3000 ∧ a.tmod 3000 = Int.ofNat i := by
  have h1 : IntKind.u16.min ≤ a ∧ a ≤ IntKind.u16.max := by simpa [Lit.wf] using h
  have e1 : IntKind.u16.min = 0 := rfl
  rw [e1] at h1
  refine ⟨(a % 3000).toNat, by omega, ?_⟩
  rw [Int.tmod_eq_emod_of_nonneg h1.1]
  show a % 3000 = ((a % 3000).toNat : Int)
  omega
theorem runs0 (i : Nat) (h0 : 0 ≤ i) (h : i < 375) : run i = true := by
  by_cases h0 : i < 25
  · exact allN_at r0 i (by omega) (by omega)
  by_cases h25 : i < 50
  · exact allN_at r25 i (by omega) (by omega)
  by_cases h50 : i < 75
  · exact allN_at r50 i (by omega) (by omega)
  by_cases h75 : i < 100
  · exact allN_at r75 i (by omega) (by omega)
  by_cases h100 : i < 125
  · exact allN_at r100 i (by omega) (by omega)
  by_cases h125 : i < 150
  · exact allN_at r125 i (by omega) (by omega)
  by_cases h150 : i < 175
  · exact allN_at r150 i (by omega) (by omega)
  by_cases h175 : i < 200
  · exact allN_at r175 i (by omega) (by omega)
  by_cases h200 : i < 225
  · exact allN_at r200 i (by omega) (by omega)
  by_cases h225 : i < 250
  · exact allN_at r225 i (by omega) (by omega)
  by_cases h250 : i < 275
  · exact allN_at r250 i (by omega) (by omega)
  by_cases h275 : i < 300
  · exact allN_at r275 i (by omega) (by omega)
  by_cases h300 : i < 325
  · exact allN_at r300 i (by omega) (by omega)
  by_cases h325 : i < 350
  · exact allN_at r325 i (by omega) (by omega)
  by_cases h350 : i < 375
  · exact allN_at r350 i (by omega) (by omega)
  omega
theorem runs1 (i : Nat) (h0 : 375 ≤ i) (h : i < 750) : run i = true := by
  by_cases h375 : i < 400
  · exact allN_at r375 i (by omega) (by omega)
  by_cases h400 : i < 425
  · exact allN_at r400 i (by omega) (by omega)
  by_cases h425 : i < 450
  · exact allN_at r425 i (by omega) (by omega)
  by_cases h450 : i < 475
  · exact allN_at r450 i (by omega) (by omega)
  by_cases h475 : i < 500
  · exact allN_at r475 i (by omega) (by omega)
  by_cases h500 : i < 525
  · exact allN_at r500 i (by omega) (by omega)
  by_cases h525 : i < 550
  · exact allN_at r525 i (by omega) (by omega)
  by_cases h550 : i < 575
  · exact allN_at r550 i (by omega) (by omega)
  by_cases h575 : i < 600
  · exact allN_at r575 i (by omega) (by omega)
  by_cases h600 : i < 625
  · exact allN_at r600 i (by omega) (by omega)
  by_cases h625 : i < 650
  · exact allN_at r625 i (by omega) (by omega)
  by_cases h650 : i < 675
  · exact allN_at r650 i (by omega) (by omega)
  by_cases h675 : i < 700
  · exact allN_at r675 i (by omega) (by omega)
  by_cases h700 : i < 725
  · exact allN_at r700 i (by omega) (by omega)
  by_cases h725 : i < 750
  · exact allN_at r725 i (by omega) (by omega)
  omega
theorem runs2 (i : Nat) (h0 : 750 ≤ i) (h : i < 1125) : run i = true := by
  by_cases h750 : i < 775
  · exact allN_at r750 i (by omega) (by omega)
  by_cases h775 : i < 800
  · exact allN_at r775 i (by omega) (by omega)
  by_cases h800 : i < 825
  · exact allN_at r800 i (by omega) (by omega)
  by_cases h825 : i < 850
  · exact allN_at r825 i (by omega) (by omega)
  by_cases h850 : i < 875
  · exact allN_at r850 i (by omega) (by omega)
  by_cases h875 : i < 900
  · exact allN_at r875 i (by omega) (by omega)
  by_cases h900 : i < 925
  · exact allN_at r900 i (by omega) (by omega)
  by_cases h925 : i < 950
  · exact allN_at r925 i (by omega) (by omega)
  by_cases h950 : i < 975
  · exact allN_at r950 i (by omega) (by omega)
  by_cases h975 : i < 1000
  · exact allN_at r975 i (by omega) (by omega)
  by_cases h1000 : i < 1025
  · exact allN_at r1000 i (by omega) (by omega)
  by_cases h1025 : i < 1050
  · exact allN_at r1025 i (by omega) (by omega)
  by_cases h1050 : i < 1075
  · exact allN_at r1050 i (by omega) (by omega)
  by_cases h1075 : i < 1100
  · exact allN_at r1075 i (by omega) (by omega)
  by_cases h1100 : i < 1125
  · exact allN_at r1100 i (by omega) (by omega)
  omega
theorem runs3 (i : Nat) (h0 : 1125 ≤ i) (h : i < 1500) : run i = true := by
  by_cases h1125 : i < 1150
  · exact allN_at r1125 i (by omega) (by omega)
  by_cases h1150 : i < 1175
  · exact allN_at r1150 i (by omega) (by omega)
  by_cases h1175 : i < 1200
  · exact allN_at r1175 i (by omega) (by omega)
  by_cases h1200 : i < 1225
  · exact allN_at r1200 i (by omega) (by omega)
  by_cases h1225 : i < 1250
  · exact allN_at r1225 i (by omega) (by omega)
  by_cases h1250 : i < 1275
  · exact allN_at r1250 i (by omega) (by omega)
  by_cases h1275 : i < 1300
  · exact allN_at r1275 i (by omega) (by omega)
  by_cases h1300 : i < 1325
  · exact allN_at r1300 i (by omega) (by omega)
  by_cases h1325 : i < 1350
  · exact allN_at r1325 i (by omega) (by omega)
  by_cases h1350 : i < 1375
  · exact allN_at r1350 i (by omega) (by omega)
  by_cases h1375 : i < 1400
  · exact allN_at r1375 i (by omega) (by omega)
  by_cases h1400 : i < 1425
  · exact allN_at r1400 i (by omega) (by omega)
  by_cases h1425 : i < 1450
  · exact allN_at r1425 i (by omega) (by omega)
  by_cases h1450 : i < 1475
  · exact allN_at r1450 i (by omega) (by omega)
  by_cases h1475 : i < 1500
  · exact allN_at r1475 i (by omega) (by omega)
  omega
theorem runs4 (i : Nat) (h0 : 1500 ≤ i) (h : i < 1875) : run i = true := by
  by_cases h1500 : i < 1525
  · exact allN_at r1500 i (by omega) (by omega)
  by_cases h1525 : i < 1550
  · exact allN_at r1525 i (by omega) (by omega)
  by_cases h1550 : i < 1575
  · exact allN_at r1550 i (by omega) (by omega)
  by_cases h1575 : i < 1600
  · exact allN_at r1575 i (by omega) (by omega)
  by_cases h1600 : i < 1625
  · exact allN_at r1600 i (by omega) (by omega)
  by_cases h1625 : i < 1650
  · exact allN_at r1625 i (by omega) (by omega)
  by_cases h1650 : i < 1675
  · exact allN_at r1650 i (by omega) (by omega)
  by_cases h1675 : i < 1700
  · exact allN_at r1675 i (by omega) (by omega)
  by_cases h1700 : i < 1725
  · exact allN_at r1700 i (by omega) (by omega)
  by_cases h1725 : i < 1750
  · exact allN_at r1725 i (by omega) (by omega)
  by_cases h1750 : i < 1775
  · exact allN_at r1750 i (by omega) (by omega)
  by_cases h1775 : i < 1800
  · exact allN_at r1775 i (by omega) (by omega)
  by_cases h1800 : i < 1825
  · exact allN_at r1800 i (by omega) (by omega)
  by_cases h1825 : i < 1850
  · exact allN_at r1825 i (by omega) (by omega)
  by_cases h1850 : i < 1875
  · exact allN_at r1850 i (by omega) (by omega)
  omega
theorem runs5 (i : Nat) (h0 : 1875 ≤ i) (h : i < 2250) : run i = true := by
  by_cases h1875 : i < 1900
  · exact allN_at r1875 i (by omega) (by omega)
  by_cases h1900 : i < 1925
  · exact allN_at r1900 i (by omega) (by omega)
  by_cases h1925 : i < 1950
  · exact allN_at r1925 i (by omega) (by omega)
  by_cases h1950 : i < 1975
  · exact allN_at r1950 i (by omega) (by omega)
  by_cases h1975 : i < 2000
  · exact allN_at r1975 i (by omega) (by omega)
  by_cases h2000 : i < 2025
  · exact allN_at r2000 i (by omega) (by omega)
  by_cases h2025 : i < 2050
  · exact allN_at r2025 i (by omega) (by omega)
  by_cases h2050 : i < 2075
  · exact allN_at r2050 i (by omega) (by omega)
  by_cases h2075 : i < 2100
  · exact allN_at r2075 i (by omega) (by omega)
  by_cases h2100 : i < 2125
  · exact allN_at r2100 i (by omega) (by omega)
  by_cases h2125 : i < 2150
  · exact allN_at r2125 i (by omega) (by omega)
  by_cases h2150 : i < 2175
  · exact allN_at r2150 i (by omega) (by omega)
  by_cases h2175 : i < 2200
  · exact allN_at r2175 i (by omega) (by omega)
  by_cases h2200 : i < 2225
  · exact allN_at r2200 i (by omega) (by omega)
  by_cases h2225 : i < 2250
  · exact allN_at r2225 i (by omega) (by omega)
  omega
theorem runs6 (i : Nat) (h0 : 2250 ≤ i) (h : i < 2625) : run i = true := by
  by_cases h2250 : i < 2275
  · exact allN_at r2250 i (by omega) (by omega)
  by_cases h2275 : i < 2300
  · exact allN_at r2275 i (by omega) (by omega)
  by_cases h2300 : i < 2325
  · exact allN_at r2300 i (by omega) (by omega)
  by_cases h2325 : i < 2350
  · exact allN_at r2325 i (by omega) (by omega)
  by_cases h2350 : i < 2375
  · exact allN_at r2350 i (by omega) (by omega)
  by_cases h2375 : i < 2400
  · exact allN_at r2375 i (by omega) (by omega)
  by_cases h2400 : i < 2425
  · exact allN_at r2400 i (by omega) (by omega)
  by_cases h2425 : i < 2450
  · exact allN_at r2425 i (by omega) (by omega)
  by_cases h2450 : i < 2475
  · exact allN_at r2450 i (by omega) (by omega)
  by_cases h2475 : i < 2500
  · exact allN_at r2475 i (by omega) (by omega)
  by_cases h2500 : i < 2525
  · exact allN_at r2500 i (by omega) (by omega)
  by_cases h2525 : i < 2550
  · exact allN_at r2525 i (by omega) (by omega)
  by_cases h2550 : i < 2575
  · exact allN_at r2550 i (by omega) (by omega)
  by_cases h2575 : i < 2600
  · exact allN_at r2575 i (by omega) (by omega)
  by_cases h2600 : i < 2625
  · exact allN_at r2600 i (by omega) (by omega)
  omega
theorem runs7 (i : Nat) (h0 : 2625 ≤ i) (h : i < 3000) : run i = true := by
  by_cases h2625 : i < 2650
  · exact allN_at r2625 i (by omega) (by omega)
  by_cases h2650 : i < 2675
  · exact allN_at r2650 i (by omega) (by omega)
  by_cases h2675 : i < 2700
  · exact allN_at r2675 i (by omega) (by omega)
  by_cases h2700 : i < 2725
  · exact allN_at r2700 i (by omega) (by omega)
  by_cases h2725 : i < 2750
  · exact allN_at r2725 i (by omega) (by omega)
  by_cases h2750 : i < 2775
  · exact allN_at r2750 i (by omega) (by omega)
  by_cases h2775 : i < 2800
  · exact allN_at r2775 i (by omega) (by omega)
  by_cases h2800 : i < 2825
  · exact allN_at r2800 i (by omega) (by omega)
  by_cases h2825 : i < 2850
  · exact allN_at r2825 i (by omega) (by omega)
  by_cases h2850 : i < 2875
  · exact allN_at r2850 i (by omega) (by omega)
  by_cases h2875 : i < 2900
  · exact allN_at r2875 i (by omega) (by omega)
  by_cases h2900 : i < 2925
  · exact allN_at r2900 i (by omega) (by omega)
  by_cases h2925 : i < 2950
  · exact allN_at r2925 i (by omega) (by omega)
  by_cases h2950 : i < 2975
  · exact allN_at r2950 i (by omega) (by omega)
  by_cases h2975 : i < 3000
  · exact allN_at r2975 i (by omega) (by omega)
  omega
theorem runs (i : Nat) (h : i < 3000) : run i = true := by
  by_cases h0 : i < 375
  · exact runs0 i (by omega) h0
  by_cases h1 : i < 750
  · exact runs1 i (by omega) h1
  by_cases h2 : i < 1125
  · exact runs2 i (by omega) h2
  by_cases h3 : i < 1500
  · exact runs3 i (by omega) h3
  by_cases h4 : i < 1875
  · exact runs4 i (by omega) h4
  by_cases h5 : i < 2250
  · exact runs5 i (by omega) h5
  by_cases h6 : i < 2625
  · exact runs6 i (by omega) h6
  by_cases h7 : i < 3000
  · exact runs7 i (by omega) h7
  omega
theorem walk (a0 : Int) (w0 : (Lit.int .u16 a0).wf = true) (w : World) :
    Calls Try.prog 3 #[.int .u16 a0] w fun e w' => e = .returned (.bool true) ∧ Below w.heap.size w w' := by
  obtain ⟨fi, hfi, hb⟩ : ∃ fi, tab18.fn.get 3 = some fi ∧ fi.body.isSome = true := ⟨_, rfl, by kernel_rfl⟩
  obtain ⟨i, h1, h2⟩ := wordMod w0
  have hall : AllOk (cx (nu a0) (nu_one a0) 0 (fun _ => True) noStab) (tabC i) := (tab18Ok (nu a0) (nu_one a0)).hyps (hyOk a0 i h2)
  exact runP hall rfl hfi hb (runs i h1) (args := [.int .u16 a0]) (by simp only [RelL, Rel]; exact ⟨_, _, rfl, rfl, rfl⟩) w
end framesSizes
end Go.Proofs.Ytpccllhgbbpocaa
