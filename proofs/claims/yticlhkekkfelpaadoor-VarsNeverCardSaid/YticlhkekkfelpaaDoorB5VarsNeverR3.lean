/- A part of the proof: an interpreter of the model's own code on partly known states, and that what it answers is what the program answers. No condition of its own. -/
import Derived.Test.YticlhkekkfelpaaDoorB5VarsNeverO
set_option maxRecDepth 100000
set_option linter.unusedVariables false
set_option linter.unusedSimpArgs false
namespace Go.Proofs.YticlhkekkfelpaaDoor.varsNever
open Go Go.AX Go.Proofs Go.Proofs.YticlhkekkfelpaaDoor
def hy3 : List (HK × AV) := [(.len (.x 1), .x 2),
  (.bin .gtr (.x 2) (.i .i64 (.ofNat 100)), .b false),
  (.bin .rem (.x 0) (.i .u8 (.ofNat 8)), .i .u8 (.ofNat 3)),
  (.bin .eql (.x 1) (.x 1), .b true)]
noncomputable def tab3 : Tab := { tabk with hyp := hy3 }
theorem run3 : okB (call tab3 20000 10 [.x 0, .x 1] ⟨H0 , 7, 0, 0⟩) = true := by kernel_rfl
def nu3 (which : Int) (v : List UInt8) : List Value := [.int .u8 (which),
  St' v,
  .int .i64 ((v.length : Int))]
theorem one3 (which : Int) (v : List UInt8) : ∀ j, (nuL (nu3 which v) j).oneCell' = true := nuL_one (l := nu3 which v) rfl
set_option maxHeartbeats 2000000 in
theorem hyOk3 (which : Int) (v : List UInt8) (b0 : 0 ≤ which) (b1 : which ≤ 255) (b2 : v.length ≤ 9223372036854775807) (h0 : ¬ (100 < (v.length : Int))) (h1 : ¬ (which % 8 = 0)) (h2 : ¬ (which % 8 = 1)) (h3 : ¬ (which % 8 = 2)) (h4 : which % 8 = 3) : ∀ k r, (k, r) ∈ hy3 → HOk (cx (nuL (nu3 which v)) (one3 which v) 0 laidE laidE_stab) k r := by
  unfold hy3
  refine hcons (kLenE (isX rfl) (denX rfl) (by first | omega | (simp only [List.length_append, List.length_cons, List.length_nil, List.length_take, List.length_drop, List.length_replicate, Int.natCast_add] at *; omega))) ?_
  refine hcons (kGt (isX rfl) (isZ (m := 100) rfl) (decide_eq_false (by omega))) ?_
  refine hcons (kRem (isX rfl) (isZ (m := 8) rfl) (denZ (m := 3) rfl) (by omega) (by omega) (by omega)) ?_
  refine hcons (kEqS (isX rfl) (isX rfl) (decide_eq_true rfl)) ?_
  exact hnil
theorem path3 (which : Int) (v : List UInt8) (b0 : 0 ≤ which) (b1 : which ≤ 255) (b2 : v.length ≤ 9223372036854775807) (h0 : ¬ (100 < (v.length : Int))) (h1 : ¬ (which % 8 = 0)) (h2 : ¬ (which % 8 = 1)) (h3 : ¬ (which % 8 = 2)) (h4 : which % 8 = 3) (w : World) (hl : laidE w) : Calls Tryd.prog 10 #[.int .u8 which, St' v] w fun e w' => e = .returned (.bool true) ∧ Go.AX.Below w.heap.size w w' := by
  obtain ⟨fi, hfi, hb⟩ : ∃ fi, tabk.fn.get 10 = some fi ∧ fi.body.isSome = true := ⟨_, rfl, by kernel_rfl⟩
  exact runP (tb := tab3) ((tabkOk (nuL (nu3 which v)) (one3 which v)).hyps (hyOk3 which v b0 b1 b2 h0 h1 h2 h3 h4)) rfl hfi hb (run3 ) (args := [.int .u8 which, St' v]) (by simp only [RelL, Rel]; exact ⟨_, _, rfl, rfl, ⟨_, _, rfl, rfl, rfl⟩⟩) w hl
end Go.Proofs.YticlhkekkfelpaaDoor.varsNever
