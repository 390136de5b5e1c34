/- A part of the proof: an interpreter of the model's own code on partly known states, and that what it answers is what the program answers. No condition of its own. -/
import Derived.Test.YtkhcgoeccmkmdaaP1RecordRowsO3
set_option maxRecDepth 100000
set_option linter.unusedVariables false
set_option linter.unusedSimpArgs false
set_option maxHeartbeats 4000000
namespace Go.Proofs.Ytkhcgoeccmkmdaa.recordRows
open Go Go.AX Go.Proofs Go.Proofs.Ytkhcgoeccmkmdaa
variable {nu : Nat → Value} {one : ∀ i, i < 1000000 → (nu i).oneCell' = true} {E' : Cx} {x' : Ex} {e' : LA} {h' : LE}
theorem rep3 : allN (repI ) 48 16 = true := by kernel_rfl
theorem rep7 : allN (repI ) 112 16 = true := by kernel_rfl
theorem rep11 : allN (repI ) 176 16 = true := by kernel_rfl
theorem rep15 : allN (repI ) 240 16 = true := by kernel_rfl
theorem repAll (n : Nat) (h : n < 256) : repI n = true := by
  by_cases h0 : n < 16
  · exact allN_at (rep0 ) n (by omega) (by omega)
  by_cases h1 : n < 32
  · exact allN_at (rep1 ) n (by omega) (by omega)
  by_cases h2 : n < 48
  · exact allN_at (rep2 ) n (by omega) (by omega)
  by_cases h3 : n < 64
  · exact allN_at (rep3 ) n (by omega) (by omega)
  by_cases h4 : n < 80
  · exact allN_at (rep4 ) n (by omega) (by omega)
  by_cases h5 : n < 96
  · exact allN_at (rep5 ) n (by omega) (by omega)
  by_cases h6 : n < 112
  · exact allN_at (rep6 ) n (by omega) (by omega)
  by_cases h7 : n < 128
  · exact allN_at (rep7 ) n (by omega) (by omega)
  by_cases h8 : n < 144
  · exact allN_at (rep8 ) n (by omega) (by omega)
  by_cases h9 : n < 160
  · exact allN_at (rep9 ) n (by omega) (by omega)
  by_cases h10 : n < 176
  · exact allN_at (rep10 ) n (by omega) (by omega)
  by_cases h11 : n < 192
  · exact allN_at (rep11 ) n (by omega) (by omega)
  by_cases h12 : n < 208
  · exact allN_at (rep12 ) n (by omega) (by omega)
  by_cases h13 : n < 224
  · exact allN_at (rep13 ) n (by omega) (by omega)
  by_cases h14 : n < 240
  · exact allN_at (rep14 ) n (by omega) (by omega)
  exact allN_at (rep15 ) n (by omega) (by omega)
theorem callsRep (n : Nat) (h : n < 256) (w : World) (hl : laidE w) : Calls Try.prog 19 #[St' [0], .int .i64 (n : Int)] w fun e w' => e = .returned (St' (List.replicate n 0)) ∧ Go.AX.Below (Go.AX.Fz.lt w.heap.size) w w' := by
  obtain ⟨fi, hfi, hb⟩ : ∃ fi, tabk.fn.get 19 = some fi ∧ fi.body.isSome = true := ⟨_, rfl, by kernel_rfl⟩
  have hh := runS (tb := tabk) (tabkOk (nuL []) (fun j _ => nuL_one (l := []) rfl j)) rfl hfi hb (len := n) (n := 0) (repAll n h) (args := [St' [0], .int .i64 (n : Int)]) (by simp only [RelL, Rel]; exact ⟨_, _, rfl, ⟨rfl, by omega⟩, _, _, rfl, rfl, rfl⟩) w hl
  rw [strB_zero] at hh
  exact hh
theorem hokRep {nu : Nat → Value} {one : ∀ i, i < 1000000 → (nu i).oneCell' = true} {i j : Nat} {t : Int} (hi : nu i = .int .i64 t) (hj : nu j = St' (List.replicate t.toNat 0)) (b0 : 0 ≤ t) (b1 : t ≤ 255) : HOk (cx nu one 0 laidE laidE_stab) (.call 19 [.s 1 0, .x i]) (.x j) := by
  intro ρ args hr w hl _
  simp only [RelL, Rel] at hr
  obtain ⟨u, vt, rfl, ⟨rfl, _⟩, v, vt2, rfl, rfl, rfl⟩ := hr
  have ht : t = (t.toNat : Int) := by omega
  have hc := callsRep t.toNat (by omega) w hl
  rw [← ht, ← hi] at hc
  exact hc.mono fun e w' he => ⟨_, he.1, (by simp only [Rel]; exact hj.symm), he.2⟩
end Go.Proofs.Ytkhcgoeccmkmdaa.recordRows
