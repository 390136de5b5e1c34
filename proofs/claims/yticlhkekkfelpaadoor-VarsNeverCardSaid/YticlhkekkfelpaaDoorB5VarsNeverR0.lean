/- A part of the proof: an interpreter of the model's own code on partly known states, and that what it answers is what the program answers. No condition of its own. -/
import Derived.Test.YticlhkekkfelpaaDoorB5VarsNeverO
set_option maxRecDepth 100000
set_option linter.unusedVariables false
set_option linter.unusedSimpArgs false
namespace Go.Proofs.YticlhkekkfelpaaDoor.varsNever
open Go Go.AX Go.Proofs Go.Proofs.YticlhkekkfelpaaDoor
def hy0 : List (HK × AV) := [(.len (.x 1), .x 2),
  (.bin .gtr (.x 2) (.i .i64 (.ofNat 100)), .b false),
  (.bin .rem (.x 0) (.i .u8 (.ofNat 8)), .i .u8 (.ofNat 0)),
  (.bin .eql (.x 1) (.x 1), .b true)]
noncomputable def tab0 : Tab := { tabk with hyp := hy0 }
theorem run0 : okB (call tab0 20000 10 [.x 0, .x 1] ⟨H0 , 7, 0, 0⟩) = true := by kernel_rfl
def nu0 (which : Int) (v : List UInt8) : List Value := [.int .u8 (which),
  St' v,
  .int .i64 ((v.length : Int))]
theorem one0 (which : Int) (v : List UInt8) : ∀ j, (nuL (nu0 which v) j).oneCell' = true := nuL_one (l := nu0 which v) rfl
set_option maxHeartbeats 2000000 in
theorem hyOk0 (which : Int) (v : List UInt8) (b0 : 0 ≤ which) (b1 : which ≤ 255) (b2 : v.length ≤ 9223372036854775807) (h0 : ¬ (100 < (v.length : Int))) (h1 : which % 8 = 0) : ∀ k r, (k, r) ∈ hy0 → HOk (cx (nuL (nu0 which v)) (one0 which v) 0 laidE laidE_stab) k r := by
  unfold hy0
  refine hcons (kLenE (isX rfl) (denX rfl) (by first | omega | (simp only [List.length_append, List.length_cons, List.length_nil, List.length_take, List.length_drop, List.length_replicate, Int.natCast_add] at *; omega))) ?_
  refine hcons (kGt (isX rfl) (isZ (m := 100) rfl) (decide_eq_false (by omega))) ?_
  refine hcons (kRem (isX rfl) (isZ (m := 8) rfl) (denZ (m := 0) rfl) (by omega) (by omega) (by omega)) ?_
  refine hcons (kEqS (isX rfl) (isX rfl) (decide_eq_true rfl)) ?_
  exact hnil
theorem path0 (which : Int) (v : List UInt8) (b0 : 0 ≤ which) (b1 : which ≤ 255) (b2 : v.length ≤ 9223372036854775807) (h0 : ¬ (100 < (v.length : Int))) (h1 : which % 8 = 0) (w : World) (hl : laidE w) : Calls Tryd.prog 10 #[.int .u8 which, St' v] w fun e w' => e = .returned (.bool true) ∧ Go.AX.Below w.heap.size w w' := by
  obtain ⟨fi, hfi, hb⟩ : ∃ fi, tabk.fn.get 10 = some fi ∧ fi.body.isSome = true := ⟨_, rfl, by kernel_rfl⟩
  exact runP (tb := tab0) ((tabkOk (nuL (nu0 which v)) (one0 which v)).hyps (hyOk0 which v b0 b1 b2 h0 h1)) rfl hfi hb (run0 ) (args := [.int .u8 which, St' v]) (by simp only [RelL, Rel]; exact ⟨_, _, rfl, rfl, ⟨_, _, rfl, rfl, rfl⟩⟩) w hl
end Go.Proofs.YticlhkekkfelpaaDoor.varsNever
