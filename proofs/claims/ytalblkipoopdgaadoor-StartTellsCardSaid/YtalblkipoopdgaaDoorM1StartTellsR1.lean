/- A part of the proof: an interpreter of the model's own code on partly known states, and that what it answers is what the program answers. No condition of its own. -/
import Derived.Test.YtalblkipoopdgaaDoorM1StartTellsO6
set_option maxRecDepth 100000
set_option linter.unusedVariables false
set_option linter.unusedSimpArgs false
set_option maxHeartbeats 4000000
namespace Go.Proofs.YtalblkipoopdgaaDoor.startTells
open Go Go.AX Go.Proofs Go.Proofs.YtalblkipoopdgaaDoor
def hy3 : LK := [(.len (.x 0), .x 2),
  (.bin .gtr (.x 2) (.i .i64 (.ofNat 800)), .b false),
  (.len (.x 1), .x 3),
  (.bin .gtr (.x 3) (.i .i64 (.ofNat 800)), .b true)]
theorem run3 (e : Nat) : Go.AX.okB (call (tbl hy3) 9000 3 [.x 0, .x 1] ⟨H0 e , 7, 0, 0⟩) = true := by kernel_rfl
def nu3 (line : LB) (tg : LB) : List Value := [St' line,
  St' tg,
  .int .i64 ((line.length : Int)),
  .int .i64 ((tg.length : Int))]
theorem one3 (line : LB) (tg : LB) : ∀ j, j < 1000000 → (nuL (nu3 line tg) j).oneCell' = true := fun j _ => nuL_one (l := nu3 line tg) rfl j
theorem path3 (line : LB) (tg : LB) (b0 : line.length ≤ 9223372036854775807) (b1 : tg.length ≤ 9223372036854775807) (h0 : ¬ (800 < (line.length : Int))) (h1 : 800 < (tg.length : Int)) (w : World) (hl : laidE w) : CwR 3 #[St' line, St' tg] w (.bool true) := by
  have ho : ∀ k r, (k, r) ∈ hy3 → HOk (cx (nuL (nu3 line tg)) (one3 line tg) 1 laidE laidE_stab) k r := by
    unfold hy3
    exact hc (lnV rfl rfl (by omega)) <|
     hc (gtcF rfl (by omega)) <|
     hc (lnV rfl rfl (by omega)) <|
     hc (gtcT rfl (by omega)) <|
     hnil
  obtain ⟨fi, hfi, hb⟩ := fiE
  exact runP (tb := (tbl hy3)) ((tabkOk (nuL (nu3 line tg)) (one3 line tg)).hyps ho) rfl hfi hb (fun e => run3 e ) (args := [St' line, St' tg]) (by simp only [RelL, Rel]; exact ⟨_, _, rfl, rfl, ⟨_, _, rfl, rfl, rfl⟩⟩) w hl
end Go.Proofs.YtalblkipoopdgaaDoor.startTells
