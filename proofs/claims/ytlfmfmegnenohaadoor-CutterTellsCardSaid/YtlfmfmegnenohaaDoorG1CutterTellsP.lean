/- A part of the proof: an interpreter of the model's own code on partly known states, and that what it answers is what the program answers. No condition of its own. -/
import Derived.Test.YtlfmfmegnenohaaDoorG1CutterTellsR0
import Derived.Test.YtlfmfmegnenohaaDoorG1CutterTellsR1
set_option maxRecDepth 100000
set_option linter.unusedVariables false
set_option linter.unusedSimpArgs false
set_option maxHeartbeats 4000000
namespace Go.Proofs.YtlfmfmegnenohaaDoor.cutterTells
open Go Go.AX Go.Proofs Go.Proofs.YtlfmfmegnenohaaDoor
theorem walkE (most : Int) (ad_l : Option Addr) (cp_l : Nat) (b0 : -9223372036854775808 ≤ most) (b1 : most ≤ 9223372036854775807) (w : World) (hl : laidE w) : CwR 5 #[.int .i64 most, .slice ad_l 0 cp_l] w (.bool true) := by
  exact path0 most ad_l cp_l b0 b1 w hl
theorem walkR (most : Int) (blk_l : Nat) (base_l : Nat) (es_l : Nat) (l : List LB) (b0 : -9223372036854775808 ≤ most) (b1 : most ≤ 9223372036854775807) (b2 : 1 ≤ l.length) (b3 : ∀ q, q ∈ l → q.length ≤ 140737488351232) (b4 : l.length ≤ 9223372036854775807) (w : World) (hl : laidE w) (w_l : InRow w 1 (l.map St') blk_l base_l l.length es_l) (g_l : ∀ e, (H0 e ).get blk_l = none) : CwR 5 #[.int .i64 most, .slice (some ⟨blk_l, base_l, none⟩) l.length es_l] w (.bool true) := by
  by_cases h0 : 30 < (l.length : Int)
  · exact path3 most blk_l base_l es_l l b0 b1 b2 b3 b4 h0 w hl w_l g_l
  · by_cases h1 : okL l
    · exact path1 most blk_l base_l es_l l b0 b1 b2 b3 b4 h0 h1 w hl w_l g_l
    · exact path2 most blk_l base_l es_l l b0 b1 b2 b3 b4 h0 h1 w hl w_l g_l
end Go.Proofs.YtlfmfmegnenohaaDoor.cutterTells
