/- A part of the proof: an interpreter of the model's own code on partly known states, and that what it answers is what the program answers. No condition of its own. -/
import Derived.Test.YtgimfcnobfelbaaL1LaneGrammarQ
set_option maxRecDepth 100000
set_option linter.unusedVariables false
set_option linter.unusedSimpArgs false
set_option maxHeartbeats 4000000
namespace Go.Proofs.Ytgimfcnobfelbaa.laneGrammar
open Go Go.AX Go.Proofs Go.Proofs.Ytgimfcnobfelbaa
def hy18 : LK := [(.len (.x 0), .x 1),
  (.bin .gtr (.x 1) (.i .i64 (.ofNat 2000)), .b false),
  (.rl (.x 2000000) 5, .x 2),
  (.bin .gtr (.x 2) (.i .i64 (.ofNat 60)), .b true)]
theorem run18 : Go.AX.okB (call (tbl hy18) 9000 3 [.x 0, .sr 1] ⟨addR 1 [.r 2000000 34 5 true] (H0 ), 1 + List.length (α := Ent) [.r 2000000 34 5 true], 0, 0⟩) = true := by kernel_rfl
def nu18 (body : LB) (blk_z : Nat) (base_z : Nat) (es_z : Nat) (z : List (Int × Int × Int × LB × Int)) : List Value := [St' body,
  .int .i64 ((body.length : Int)),
  .int .i64 ((z.length : Int))]
def ro18 (body : LB) (blk_z : Nat) (base_z : Nat) (es_z : Nat) (z : List (Int × Int × Int × LB × Int)) : List Value := [rwG stC z]
theorem on18 (body : LB) (blk_z : Nat) (base_z : Nat) (es_z : Nat) (z : List (Int × Int × Int × LB × Int)) : ∀ j, (nuL (nu18 body blk_z base_z es_z z) j).oneCell' = true := nuL_one (l := nu18 body blk_z base_z es_z z) rfl
theorem path18 (body : LB) (blk_z : Nat) (base_z : Nat) (es_z : Nat) (z : List (Int × Int × Int × LB × Int)) (b0 : body.length ≤ 9223372036854775807) (b1 : ∀ n, n ∈ z → stB n) (b2 : z.length ≤ 9223372036854775807) (h0 : ¬ (2000 < (body.length : Int))) (h1 : 60 < (z.length : Int)) (w : World) (hl : laidE w) (w_z : InRow w 5 (z.flatMap stC) blk_z base_z z.length es_z) (g_z : (H0 ).get blk_z = none) : CwR 3 #[St' body, .slice (some ⟨blk_z, base_z, none⟩) z.length es_z] w (.bool true) := by
  have ho : ∀ k r, (k, r) ∈ hy18 → HOk (cx (nuX (nu18 body blk_z base_z es_z z) (rX (ro18 body blk_z base_z es_z z) (fun _ => .bool true))) (nuX_one (on18 body blk_z base_z es_z z)) 0 laidE laidE_stab) k r := by
    unfold hy18
    exact hc (lnV rfl rfl (by omega)) <|
     hc (gtcF rfl (by omega)) <|
     hc (kRlG stC_len (isX rfl) (denX rfl) (by first | omega | (simp <;> omega))) <|
     hc (gtcT rfl (by omega)) <|
     hnil
  obtain ⟨fi, hfi, hb⟩ := fiE
  exact runPR (tb := (tbl hy18)) ((tabkOk (nuX (nu18 body blk_z base_z es_z z) (rX (ro18 body blk_z base_z es_z z) (fun _ => .bool true))) (nuX_one (on18 body blk_z base_z es_z z))).hyps ho) rfl hfi hb [.r 2000000 34 5 true] [⟨blk_z, base_z, z.length, es_z⟩] (run18 ) (args := [St' body, .slice (some ⟨blk_z, base_z, none⟩) z.length es_z]) ⟨_, _, rfl, rfl, ⟨_, _, rfl, relSr w_z.room, rfl⟩⟩ w hl rfl (by decide) (args1 (w_z.arg (g_z ) rfl)) nodup1
end Go.Proofs.Ytgimfcnobfelbaa.laneGrammar
