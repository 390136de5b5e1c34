/- A part of the proof: an interpreter of the model's own code on partly known states, and that what it answers is what the program answers. No condition of its own. -/
import Derived.Test.YtlfmfmegnenohaaDoorG1CutterTellsO7
set_option maxRecDepth 100000
set_option linter.unusedVariables false
set_option linter.unusedSimpArgs false
set_option maxHeartbeats 4000000
namespace Go.Proofs.YtlfmfmegnenohaaDoor.cutterTells
open Go Go.AX Go.Proofs Go.Proofs.YtlfmfmegnenohaaDoor
def hy3 : LK := [(.bytes [], .x 1),
  (.rn, .x 2000001),
  (.rl (.x 2000000) 1, .x 2),
  (.bin .gtr (.x 2) (.i .i64 (.ofNat 30)), .b true)]
theorem run3 (e : Nat) : Go.AX.okB (call (tbl hy3) 9000 5 [.x 0, .sr 1] ⟨addR 1 [.r 2000000 9 1 true] (H0 e ), 1 + List.length (α := Ent) [.r 2000000 9 1 true], 0, 0⟩) = true := by kernel_rfl
def nu3 (most : Int) (blk_l : Nat) (base_l : Nat) (es_l : Nat) (l : List LB) : List Value := [.int .i64 (most),
  St' ([] : LB),
  .int .i64 ((l.length : Int))]
def ro3 (most : Int) (blk_l : Nat) (base_l : Nat) (es_l : Nat) (l : List LB) : List Value := [rwS l,
  rwS ([] : List LB)]
theorem on3 (most : Int) (blk_l : Nat) (base_l : Nat) (es_l : Nat) (l : List LB) : ∀ j, (nuL (nu3 most blk_l base_l es_l l) j).oneCell' = true := nuL_one (l := nu3 most blk_l base_l es_l l) rfl
theorem path3 (most : Int) (blk_l : Nat) (base_l : Nat) (es_l : Nat) (l : List LB) (b0 : -9223372036854775808 ≤ most) (b1 : most ≤ 9223372036854775807) (b2 : 1 ≤ l.length) (b3 : ∀ q, q ∈ l → q.length ≤ 140737488351232) (b4 : l.length ≤ 9223372036854775807) (h0 : 30 < (l.length : Int)) (w : World) (hl : laidE w) (w_l : InRow w 1 (l.map St') blk_l base_l l.length es_l) (g_l : ∀ e, (H0 e ).get blk_l = none) : CwR 5 #[.int .i64 most, .slice (some ⟨blk_l, base_l, none⟩) l.length es_l] w (.bool true) := by
  have ho : ∀ k r, (k, r) ∈ hy3 → HOk (cx (nuX (nu3 most blk_l base_l es_l l) (rX (ro3 most blk_l base_l es_l l) (fun _ => .bool true))) (nuX_one (on3 most blk_l base_l es_l l)) 1 laidE laidE_stab) k r := by
    unfold hy3
    exact hc (kBytesB (bs := ([] : LB)) .nil (denX rfl)) <|
     hc (kRn (denX rfl)) <|
     hc (kRl (isX rfl) (denX rfl) (by first | omega | (simp <;> omega))) <|
     hc (gtcT rfl (by omega)) <|
     hnil
  obtain ⟨fi, hfi, hb⟩ := fiE
  exact runPR (tb := (tbl hy3)) ((tabkOk (nuX (nu3 most blk_l base_l es_l l) (rX (ro3 most blk_l base_l es_l l) (fun _ => .bool true))) (nuX_one (on3 most blk_l base_l es_l l))).hyps ho) rfl hfi hb [.r 2000000 9 1 true] [⟨blk_l, base_l, l.length, es_l⟩] (fun e => run3 e ) (args := [.int .i64 most, .slice (some ⟨blk_l, base_l, none⟩) l.length es_l]) ⟨_, _, rfl, rfl, ⟨_, _, rfl, relSrN (by decide) rfl w_l.room, rfl⟩⟩ w hl rfl (by decide) (fun e => (argsCons (w_l.arg (g_l e ) rfl) argsNil)) rfl
end Go.Proofs.YtlfmfmegnenohaaDoor.cutterTells
