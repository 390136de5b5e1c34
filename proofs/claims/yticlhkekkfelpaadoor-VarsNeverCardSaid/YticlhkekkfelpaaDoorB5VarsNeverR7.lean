/- A part of the proof: an interpreter of the model's own code on partly known states, and that what it answers is what the program answers. No condition of its own. -/
import Derived.Test.YticlhkekkfelpaaDoorB5VarsNeverO
set_option maxRecDepth 100000
set_option linter.unusedVariables false
set_option linter.unusedSimpArgs false
namespace Go.Proofs.YticlhkekkfelpaaDoor.varsNever
open Go Go.AX Go.Proofs Go.Proofs.YticlhkekkfelpaaDoor
def hy7 : List (HK × AV) := [(.len (.x 1), .x 2),
  (.bin .gtr (.x 2) (.i .i64 (.ofNat 100)), .b false),
  (.bin .rem (.x 0) (.i .u8 (.ofNat 8)), .i .u8 (.ofNat 7))]
noncomputable def tab7 : Tab := { tabk with hyp := hy7 }
theorem run7 : okB (call tab7 20000 10 [.x 0, .x 1] ⟨H0 , 7, 0, 0⟩) = true := by kernel_rfl
def nu7 (which : Int) (v : List UInt8) : List Value := [.int .u8 (which),
  St' v,
  .int .i64 ((v.length : Int))]
theorem one7 (which : Int) (v : List UInt8) : ∀ j, (nuL (nu7 which v) j).oneCell' = true := nuL_one (l := nu7 which v) rfl
set_option maxHeartbeats 2000000 in
theorem hyOk7 (which : Int) (v : List UInt8) (b0 : 0 ≤ which) (b1 : which ≤ 255) (b2 : v.length ≤ 9223372036854775807) (h0 : ¬ (100 < (v.length : Int))) (h1 : ¬ (which % 8 = 0)) (h2 : ¬ (which % 8 = 1)) (h3 : ¬ (which % 8 = 2)) (h4 : ¬ (which % 8 = 3)) (h5 : ¬ (which % 8 = 4)) (h6 : ¬ (which % 8 = 5)) (h7 : ¬ (which % 8 = 6)) : ∀ k r, (k, r) ∈ hy7 → HOk (cx (nuL (nu7 which v)) (one7 which v) 0 laidE laidE_stab) k r := by
  unfold hy7
  refine hcons (kLenE (isX rfl) (denX rfl) (by first | omega | (simp only [List.length_append, List.length_cons, List.length_nil, List.length_take, List.length_drop, List.length_replicate, Int.natCast_add] at *; omega))) ?_
  refine hcons (kGt (isX rfl) (isZ (m := 100) rfl) (decide_eq_false (by omega))) ?_
  refine hcons (kRem (isX rfl) (isZ (m := 8) rfl) (denZ (m := 7) rfl) (by omega) (by omega) (by omega)) ?_
  exact hnil
theorem path7 (which : Int) (v : List UInt8) (b0 : 0 ≤ which) (b1 : which ≤ 255) (b2 : v.length ≤ 9223372036854775807) (h0 : ¬ (100 < (v.length : Int))) (h1 : ¬ (which % 8 = 0)) (h2 : ¬ (which % 8 = 1)) (h3 : ¬ (which % 8 = 2)) (h4 : ¬ (which % 8 = 3)) (h5 : ¬ (which % 8 = 4)) (h6 : ¬ (which % 8 = 5)) (h7 : ¬ (which % 8 = 6)) (w : World) (hl : laidE w) : Calls Tryd.prog 10 #[.int .u8 which, St' v] w fun e w' => e = .returned (.bool true) ∧ Go.AX.Below w.heap.size w w' := by
  obtain ⟨fi, hfi, hb⟩ : ∃ fi, tabk.fn.get 10 = some fi ∧ fi.body.isSome = true := ⟨_, rfl, by kernel_rfl⟩
  exact runP (tb := tab7) ((tabkOk (nuL (nu7 which v)) (one7 which v)).hyps (hyOk7 which v b0 b1 b2 h0 h1 h2 h3 h4 h5 h6 h7)) rfl hfi hb (run7 ) (args := [.int .u8 which, St' v]) (by simp only [RelL, Rel]; exact ⟨_, _, rfl, rfl, ⟨_, _, rfl, rfl, rfl⟩⟩) w hl
end Go.Proofs.YticlhkekkfelpaaDoor.varsNever
