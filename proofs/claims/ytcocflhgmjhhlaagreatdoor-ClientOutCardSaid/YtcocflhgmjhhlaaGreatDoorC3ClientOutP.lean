/- A part of the proof: an interpreter of the model's own code on partly known states, and that what it answers is what the program answers. No condition of its own. -/
import Derived.Test.YtcocflhgmjhhlaaGreatDoorC3ClientOutR0
import Derived.Test.YtcocflhgmjhhlaaGreatDoorC3ClientOutR1
set_option maxRecDepth 100000
set_option linter.unusedVariables false
set_option linter.unusedSimpArgs false
set_option maxHeartbeats 4000000
namespace Go.Proofs.YtcocflhgmjhhlaaGreatDoor.clientOut
open Go Go.AX Go.Proofs Go.Proofs.YtcocflhgmjhhlaaGreatDoor
theorem walkE (ad_l : Addr) (out : Int) (b0 : 0 ≤ out) (b1 : out ≤ 65535) (w : World) (hl : laidE w) : CwR 6 #[.slice (some ad_l) 0 0, .int .u16 out] w (.bool true) := by
  exact path1 ad_l out b0 b1 w hl
theorem walkN (out : Int) (b0 : 0 ≤ out) (b1 : out ≤ 65535) (w : World) (hl : laidE w) : CwR 6 #[.slice none 0 0, .int .u16 out] w (.bool true) := by
  exact path0 out b0 b1 w hl
theorem walkR (blk_l : Nat) (base_l : Nat) (es_l : Nat) (l : List Int) (out : Int) (b0 : ∀ n, n ∈ l → 0 ≤ n ∧ n ≤ 255) (b1 : l.length ≤ 9223372036854775807) (b2 : 0 ≤ out) (b3 : out ≤ 65535) (w : World) (hl : laidE w) (w_l : InRow w 1 (l.map (Value.int .u8)) blk_l base_l l.length es_l) (g_l : (H0 ).get blk_l = none) : CwR 6 #[.slice (some ⟨blk_l, base_l, none⟩) l.length es_l, .int .u16 out] w (.bool true) := by
  by_cases h0 : 30 < (l.length : Int)
  · exact path2 blk_l base_l es_l l out b0 b1 b2 b3 h0 w hl w_l g_l
  · by_cases h1 : (tlB 0 (out % 1000) l) = true
    · by_cases h2 : (tlN 0 (out % 1000) l) = 0
      · exact path4 blk_l base_l es_l l out b0 b1 b2 b3 h0 h1 h2 w hl w_l g_l
      · exact path3 blk_l base_l es_l l out b0 b1 b2 b3 h0 h1 h2 w hl w_l g_l
    · by_cases h2 : (tlN 0 (out % 1000) l) = 0
      · exact path5 blk_l base_l es_l l out b0 b1 b2 b3 h0 h1 h2 w hl w_l g_l
      · exact path6 blk_l base_l es_l l out b0 b1 b2 b3 h0 h1 h2 w hl w_l g_l
end Go.Proofs.YtcocflhgmjhhlaaGreatDoor.clientOut
