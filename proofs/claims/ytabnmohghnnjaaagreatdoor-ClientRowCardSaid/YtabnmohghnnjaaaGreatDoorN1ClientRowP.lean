/- A part of the proof: an interpreter of the model's own code on partly known states, and that what it answers is what the program answers. No condition of its own. -/
import Derived.Test.YtabnmohghnnjaaaGreatDoorN1ClientRowS0
import Derived.Test.YtabnmohghnnjaaaGreatDoorN1ClientRowS1
set_option maxRecDepth 100000
set_option linter.unusedVariables false
set_option linter.unusedSimpArgs false
set_option maxHeartbeats 4000000
namespace Go.Proofs.YtabnmohghnnjaaaGreatDoor.clientRow
open Go Go.AX Go.Proofs Go.Proofs.YtabnmohghnnjaaaGreatDoor
theorem walkE (n : Int) (ad_at_ : Option Addr) (cp_at_ : Nat) (b0 : 0 ≤ n) (b1 : n ≤ 255) (w : World) (hl : laidE w) : CwR 3 #[.int .u8 n, .slice ad_at_ 0 cp_at_] w (.bool true) := by
  rcases (show (n) % 6 = 0 ∨ (n) % 6 = 1 ∨ (n) % 6 = 2 ∨ (n) % 6 = 3 ∨ (n) % 6 = 4 ∨ (n) % 6 = 5 from by omega) with h0 | h0 | h0 | h0 | h0 | h0
  · exact path0 n ad_at_ cp_at_ b0 b1 h0 w hl
  · exact path2 n ad_at_ cp_at_ b0 b1 h0 w hl
  · exact path4 n ad_at_ cp_at_ b0 b1 h0 w hl
  · exact path6 n ad_at_ cp_at_ b0 b1 h0 w hl
  · exact path8 n ad_at_ cp_at_ b0 b1 h0 w hl
  · exact path10 n ad_at_ cp_at_ b0 b1 h0 w hl
theorem walkR (n : Int) (blk_at_ : Nat) (base_at_ : Nat) (es_at_ : Nat) (at_ : List Int) (b0 : 0 ≤ n) (b1 : n ≤ 255) (b2 : 1 ≤ at_.length) (b3 : ∀ n, n ∈ at_ → 0 ≤ n ∧ n ≤ 255) (b4 : at_.length ≤ 9223372036854775807) (w : World) (hl : laidE w) (w_at_ : InRow w 1 (at_.map (Value.int .u8)) blk_at_ base_at_ at_.length es_at_) (g_at_ : (H0 ).get blk_at_ = none) : CwR 3 #[.int .u8 n, .slice (some ⟨blk_at_, base_at_, none⟩) at_.length es_at_] w (.bool true) := by
  rcases (show (n) % 6 = 0 ∨ (n) % 6 = 1 ∨ (n) % 6 = 2 ∨ (n) % 6 = 3 ∨ (n) % 6 = 4 ∨ (n) % 6 = 5 from by omega) with h0 | h0 | h0 | h0 | h0 | h0
  · exact path1 n blk_at_ base_at_ es_at_ at_ b0 b1 b2 b3 b4 h0 w hl w_at_ g_at_
  · exact path3 n blk_at_ base_at_ es_at_ at_ b0 b1 b2 b3 b4 h0 w hl w_at_ g_at_
  · exact path5 n blk_at_ base_at_ es_at_ at_ b0 b1 b2 b3 b4 h0 w hl w_at_ g_at_
  · exact path7 n blk_at_ base_at_ es_at_ at_ b0 b1 b2 b3 b4 h0 w hl w_at_ g_at_
  · exact path9 n blk_at_ base_at_ es_at_ at_ b0 b1 b2 b3 b4 h0 w hl w_at_ g_at_
  · exact path11 n blk_at_ base_at_ es_at_ at_ b0 b1 b2 b3 b4 h0 w hl w_at_ g_at_
end Go.Proofs.YtabnmohghnnjaaaGreatDoor.clientRow
