/- A part of the proof: an interpreter of the model's own code on partly known states, and that what it answers is what the program answers. No condition of its own. -/
import Derived.Test.YtpccllhgbbpocaaDoorCut1
import Derived.Test.YtpccllhgbbpocaaDoorCut2
import Derived.Test.YtpccllhgbbpocaaDoorCut3
import Derived.Test.YtpccllhgbbpocaaDoorCut4
import Derived.Test.YtpccllhgbbpocaaDoorDRow
set_option maxRecDepth 100000
set_option linter.unusedVariables false
namespace Go.Proofs.YtpccllhgbbpocaaDoor
open Go Go.AX Go.Proofs
open Go.RowKit (Below)
namespace cutterLimits
def nu (a0 : Int) : Nat → Value := fun _ => .int .u16 a0
theorem nu_one (a0 : Int) : ∀ i, (nu a0 i).oneCell' = true := fun _ => rfl
theorem hyOk (a0 : Int) (i : Nat) (hi : a0.tmod 1000 = Int.ofNat i) : ∀ k r, (k, r) ∈ hy i → HOk (cx (nu a0) (nu_one a0) 1 laidE laidE_stab) k r := by
  intro k r h
  simp only [hy, List.mem_cons, List.not_mem_nil, or_false, Prod.mk.injEq] at h
  obtain ⟨rfl, rfl⟩ := h
  exact hRemN (k := .u16) (a := a0) rfl (by omega) fun ρ => by rw [hi]; simp only [Rel]
theorem runs (m : Bool) (i : Nat) (h : i < 1000) (e : Nat) : run e m i = true := by
  cases m
  · by_cases h0 : i < 25
    · exact allN_at (r_false_0 e) i (by omega) (by omega)
    by_cases h25 : i < 50
    · exact allN_at (r_false_25 e) i (by omega) (by omega)
    by_cases h50 : i < 75
    · exact allN_at (r_false_50 e) i (by omega) (by omega)
    by_cases h75 : i < 100
    · exact allN_at (r_false_75 e) i (by omega) (by omega)
    by_cases h100 : i < 125
    · exact allN_at (r_false_100 e) i (by omega) (by omega)
    by_cases h125 : i < 150
    · exact allN_at (r_false_125 e) i (by omega) (by omega)
    by_cases h150 : i < 175
    · exact allN_at (r_false_150 e) i (by omega) (by omega)
    by_cases h175 : i < 200
    · exact allN_at (r_false_175 e) i (by omega) (by omega)
    by_cases h200 : i < 225
    · exact allN_at (r_false_200 e) i (by omega) (by omega)
    by_cases h225 : i < 250
    · exact allN_at (r_false_225 e) i (by omega) (by omega)
    by_cases h250 : i < 275
    · exact allN_at (r_false_250 e) i (by omega) (by omega)
    by_cases h275 : i < 300
    · exact allN_at (r_false_275 e) i (by omega) (by omega)
    by_cases h300 : i < 325
    · exact allN_at (r_false_300 e) i (by omega) (by omega)
    by_cases h325 : i < 350
    · exact allN_at (r_false_325 e) i (by omega) (by omega)
    by_cases h350 : i < 375
    · exact allN_at (r_false_350 e) i (by omega) (by omega)
    by_cases h375 : i < 400
    · exact allN_at (r_false_375 e) i (by omega) (by omega)
    by_cases h400 : i < 425
    · exact allN_at (r_false_400 e) i (by omega) (by omega)
    by_cases h425 : i < 450
    · exact allN_at (r_false_425 e) i (by omega) (by omega)
    by_cases h450 : i < 475
    · exact allN_at (r_false_450 e) i (by omega) (by omega)
    by_cases h475 : i < 500
    · exact allN_at (r_false_475 e) i (by omega) (by omega)
    by_cases h500 : i < 525
    · exact allN_at (r_false_500 e) i (by omega) (by omega)
    by_cases h525 : i < 550
    · exact allN_at (r_false_525 e) i (by omega) (by omega)
    by_cases h550 : i < 575
    · exact allN_at (r_false_550 e) i (by omega) (by omega)
    by_cases h575 : i < 600
    · exact allN_at (r_false_575 e) i (by omega) (by omega)
    by_cases h600 : i < 625
    · exact allN_at (r_false_600 e) i (by omega) (by omega)
    by_cases h625 : i < 650
    · exact allN_at (r_false_625 e) i (by omega) (by omega)
    by_cases h650 : i < 675
    · exact allN_at (r_false_650 e) i (by omega) (by omega)
    by_cases h675 : i < 700
    · exact allN_at (r_false_675 e) i (by omega) (by omega)
    by_cases h700 : i < 725
    · exact allN_at (r_false_700 e) i (by omega) (by omega)
    by_cases h725 : i < 750
    · exact allN_at (r_false_725 e) i (by omega) (by omega)
    by_cases h750 : i < 775
    · exact allN_at (r_false_750 e) i (by omega) (by omega)
    by_cases h775 : i < 800
    · exact allN_at (r_false_775 e) i (by omega) (by omega)
    by_cases h800 : i < 825
    · exact allN_at (r_false_800 e) i (by omega) (by omega)
    by_cases h825 : i < 850
    · exact allN_at (r_false_825 e) i (by omega) (by omega)
    by_cases h850 : i < 875
    · exact allN_at (r_false_850 e) i (by omega) (by omega)
    by_cases h875 : i < 900
    · exact allN_at (r_false_875 e) i (by omega) (by omega)
    by_cases h900 : i < 925
    · exact allN_at (r_false_900 e) i (by omega) (by omega)
    by_cases h925 : i < 950
    · exact allN_at (r_false_925 e) i (by omega) (by omega)
    by_cases h950 : i < 975
    · exact allN_at (r_false_950 e) i (by omega) (by omega)
    by_cases h975 : i < 1000
    · exact allN_at (r_false_975 e) i (by omega) (by omega)
    omega
  · by_cases h0 : i < 25
    · exact allN_at (r_true_0 e) i (by omega) (by omega)
    by_cases h25 : i < 50
    · exact allN_at (r_true_25 e) i (by omega) (by omega)
    by_cases h50 : i < 75
    · exact allN_at (r_true_50 e) i (by omega) (by omega)
    by_cases h75 : i < 100
    · exact allN_at (r_true_75 e) i (by omega) (by omega)
    by_cases h100 : i < 125
    · exact allN_at (r_true_100 e) i (by omega) (by omega)
    by_cases h125 : i < 150
    · exact allN_at (r_true_125 e) i (by omega) (by omega)
    by_cases h150 : i < 175
    · exact allN_at (r_true_150 e) i (by omega) (by omega)
    by_cases h175 : i < 200
    · exact allN_at (r_true_175 e) i (by omega) (by omega)
    by_cases h200 : i < 225
    · exact allN_at (r_true_200 e) i (by omega) (by omega)
    by_cases h225 : i < 250
    · exact allN_at (r_true_225 e) i (by omega) (by omega)
    by_cases h250 : i < 275
    · exact allN_at (r_true_250 e) i (by omega) (by omega)
    by_cases h275 : i < 300
    · exact allN_at (r_true_275 e) i (by omega) (by omega)
    by_cases h300 : i < 325
    · exact allN_at (r_true_300 e) i (by omega) (by omega)
    by_cases h325 : i < 350
    · exact allN_at (r_true_325 e) i (by omega) (by omega)
    by_cases h350 : i < 375
    · exact allN_at (r_true_350 e) i (by omega) (by omega)
    by_cases h375 : i < 400
    · exact allN_at (r_true_375 e) i (by omega) (by omega)
    by_cases h400 : i < 425
    · exact allN_at (r_true_400 e) i (by omega) (by omega)
    by_cases h425 : i < 450
    · exact allN_at (r_true_425 e) i (by omega) (by omega)
    by_cases h450 : i < 475
    · exact allN_at (r_true_450 e) i (by omega) (by omega)
    by_cases h475 : i < 500
    · exact allN_at (r_true_475 e) i (by omega) (by omega)
    by_cases h500 : i < 525
    · exact allN_at (r_true_500 e) i (by omega) (by omega)
    by_cases h525 : i < 550
    · exact allN_at (r_true_525 e) i (by omega) (by omega)
    by_cases h550 : i < 575
    · exact allN_at (r_true_550 e) i (by omega) (by omega)
    by_cases h575 : i < 600
    · exact allN_at (r_true_575 e) i (by omega) (by omega)
    by_cases h600 : i < 625
    · exact allN_at (r_true_600 e) i (by omega) (by omega)
    by_cases h625 : i < 650
    · exact allN_at (r_true_625 e) i (by omega) (by omega)
    by_cases h650 : i < 675
    · exact allN_at (r_true_650 e) i (by omega) (by omega)
    by_cases h675 : i < 700
    · exact allN_at (r_true_675 e) i (by omega) (by omega)
    by_cases h700 : i < 725
    · exact allN_at (r_true_700 e) i (by omega) (by omega)
    by_cases h725 : i < 750
    · exact allN_at (r_true_725 e) i (by omega) (by omega)
    by_cases h750 : i < 775
    · exact allN_at (r_true_750 e) i (by omega) (by omega)
    by_cases h775 : i < 800
    · exact allN_at (r_true_775 e) i (by omega) (by omega)
    by_cases h800 : i < 825
    · exact allN_at (r_true_800 e) i (by omega) (by omega)
    by_cases h825 : i < 850
    · exact allN_at (r_true_825 e) i (by omega) (by omega)
    by_cases h850 : i < 875
    · exact allN_at (r_true_850 e) i (by omega) (by omega)
    by_cases h875 : i < 900
    · exact allN_at (r_true_875 e) i (by omega) (by omega)
    by_cases h900 : i < 925
    · exact allN_at (r_true_900 e) i (by omega) (by omega)
    by_cases h925 : i < 950
    · exact allN_at (r_true_925 e) i (by omega) (by omega)
    by_cases h950 : i < 975
    · exact allN_at (r_true_950 e) i (by omega) (by omega)
    by_cases h975 : i < 1000
    · exact allN_at (r_true_975 e) i (by omega) (by omega)
    omega
theorem walk (a0 : Int) (a1 : Bool) (w0 : (Lit.int .u16 a0).wf = true) (w : World) (hl : laidE w) :
    Calls Tryd.prog 6 #[.int .u16 a0, .bool a1] w fun e w' => e = .returned (.bool true) ∧ Below w.heap.size w w' := by
  obtain ⟨fi, hfi, hb⟩ : ∃ fi, tab5.fn.get 6 = some fi ∧ fi.body.isSome = true := ⟨_, rfl, by kernel_rfl⟩
  obtain ⟨i, h1, h2⟩ := modNat (n := 1000) (wordRange w0).1 (by omega)
  have hall : AllOk (cx (nu a0) (nu_one a0) 1 laidE laidE_stab) (tabC i) := (tab5Ok (nu a0) (nu_one a0)).hyps (hyOk a0 i h2)
  exact runD hall rfl hfi hb (fun e => runs a1 i h1 e) (args := [.int .u16 a0, .bool a1]) (by simp only [RelL, Rel]; exact ⟨_, _, rfl, rfl, _, _, rfl, rfl, rfl⟩) w hl
end cutterLimits
end Go.Proofs.YtpccllhgbbpocaaDoor
