/- A part of the proof: an interpreter of the model's own code on partly known states, and that what it answers is what the program answers. No condition of its own. -/
import Derived.Test.YtacflaaahanhgaaDoorC2OctetListsR0
import Derived.Test.YtacflaaahanhgaaDoorC2OctetListsR1
import Derived.Test.YtacflaaahanhgaaDoorC2OctetListsR2
set_option maxRecDepth 100000
set_option linter.unusedVariables false
set_option linter.unusedSimpArgs false
set_option maxHeartbeats 4000000
namespace Go.Proofs.YtacflaaahanhgaaDoor.octetLists
open Go Go.AX Go.Proofs Go.Proofs.YtacflaaahanhgaaDoor
theorem walkE (ad_l : Addr) (w : World) (hl : laidE w) : CwR 6 #[.slice (some ad_l) 0 0] w (.bool true) := by
  exact path1 ad_l w hl
theorem walkN (w : World) (hl : laidE w) : CwR 6 #[.slice none 0 0] w (.bool true) := by
  exact path0 w hl
theorem walkR (blk_l : Nat) (base_l : Nat) (es_l : Nat) (l : List Int) (b0 : ∀ n, n ∈ l → 0 ≤ n ∧ n ≤ 255) (b1 : l.length ≤ 9223372036854775807) (w : World) (hl : laidE w) (w_l : InRow w 1 (l.map (Value.int .u8)) blk_l base_l l.length es_l) (g_l : (H0 ).get blk_l = none) : CwR 6 #[.slice (some ⟨blk_l, base_l, none⟩) l.length es_l] w (.bool true) := by
  by_cases h0 : 30 < (l.length : Int)
  · exact path2 blk_l base_l es_l l b0 b1 h0 w hl w_l g_l
  · by_cases h1 : (wtT l).length = 0
    · exact path4 blk_l base_l es_l l b0 b1 h0 h1 w hl w_l g_l
    · by_cases h2 : ((lsI [] (jnT true [] l)).1).length = 0
      · exact path5 blk_l base_l es_l l b0 b1 h0 h1 h2 w hl w_l g_l
      · by_cases h3 : ((trQ ((lsI [] (jnT true [] l)).2)).length : Int) = 0
        · exact path6 blk_l base_l es_l l b0 b1 h0 h1 h2 h3 w hl w_l g_l
        · exact path3 blk_l base_l es_l l b0 b1 h0 h1 h2 h3 w hl w_l g_l
end Go.Proofs.YtacflaaahanhgaaDoor.octetLists
