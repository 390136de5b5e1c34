/- A part of the proof: an interpreter of the model's own code on partly known states, and that what it answers is what the program answers. No condition of its own. -/
import Derived.Test.YticlhkekkfelpaaDoorB5VarsNeverO
set_option maxRecDepth 100000
set_option linter.unusedVariables false
set_option linter.unusedSimpArgs false
namespace Go.Proofs.YticlhkekkfelpaaDoor.varsNever
open Go Go.AX Go.Proofs Go.Proofs.YticlhkekkfelpaaDoor
def hy8 : List (HK × AV) := [(.len (.x 1), .x 2),
  (.bin .gtr (.x 2) (.i .i64 (.ofNat 100)), .b true)]
noncomputable def tab8 : Tab := { tabk with hyp := hy8 }
theorem run8 : okB (call tab8 20000 10 [.x 0, .x 1] ⟨H0 , 7, 0, 0⟩) = true := by kernel_rfl
def nu8 (which : Int) (v : List UInt8) : List Value := [.int .u8 (which),
  St' v,
  .int .i64 ((v.length : Int))]
theorem one8 (which : Int) (v : List UInt8) : ∀ j, (nuL (nu8 which v) j).oneCell' = true := nuL_one (l := nu8 which v) rfl
set_option maxHeartbeats 2000000 in
theorem hyOk8 (which : Int) (v : List UInt8) (b0 : 0 ≤ which) (b1 : which ≤ 255) (b2 : v.length ≤ 9223372036854775807) (h0 : 100 < (v.length : Int)) : ∀ k r, (k, r) ∈ hy8 → HOk (cx (nuL (nu8 which v)) (one8 which v) 0 laidE laidE_stab) k r := by
  unfold hy8
  refine hcons (kLenE (isX rfl) (denX rfl) (by first | omega | (simp only [List.length_append, List.length_cons, List.length_nil, List.length_take, List.length_drop, List.length_replicate, Int.natCast_add] at *; omega))) ?_
  refine hcons (kGt (isX rfl) (isZ (m := 100) rfl) (decide_eq_true (by omega))) ?_
  exact hnil
theorem path8 (which : Int) (v : List UInt8) (b0 : 0 ≤ which) (b1 : which ≤ 255) (b2 : v.length ≤ 9223372036854775807) (h0 : 100 < (v.length : Int)) (w : World) (hl : laidE w) : Calls Tryd.prog 10 #[.int .u8 which, St' v] w fun e w' => e = .returned (.bool true) ∧ Go.AX.Below w.heap.size w w' := by
  obtain ⟨fi, hfi, hb⟩ : ∃ fi, tabk.fn.get 10 = some fi ∧ fi.body.isSome = true := ⟨_, rfl, by kernel_rfl⟩
  exact runP (tb := tab8) ((tabkOk (nuL (nu8 which v)) (one8 which v)).hyps (hyOk8 which v b0 b1 b2 h0)) rfl hfi hb (run8 ) (args := [.int .u8 which, St' v]) (by simp only [RelL, Rel]; exact ⟨_, _, rfl, rfl, ⟨_, _, rfl, rfl, rfl⟩⟩) w hl
end Go.Proofs.YticlhkekkfelpaaDoor.varsNever
