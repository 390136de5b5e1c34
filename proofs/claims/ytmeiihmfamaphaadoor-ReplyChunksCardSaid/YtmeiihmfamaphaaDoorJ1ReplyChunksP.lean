/- A part of the proof: an interpreter of the model's own code on partly known states, and that what it answers is what the program answers. No condition of its own. -/
import Derived.Test.YtmeiihmfamaphaaDoorJ1ReplyChunksR0
import Derived.Test.YtmeiihmfamaphaaDoorJ1ReplyChunksR1
import Derived.Test.YtmeiihmfamaphaaDoorJ1ReplyChunksR2
set_option maxRecDepth 100000
set_option linter.unusedVariables false
set_option linter.unusedSimpArgs false
set_option maxHeartbeats 4000000
namespace Go.Proofs.YtmeiihmfamaphaaDoor.replyChunks
open Go Go.AX Go.Proofs Go.Proofs.YtmeiihmfamaphaaDoor
theorem walkE (ad_l : Option Addr) (cp_l : Nat) (status : Int) (b0 : 0 ≤ status) (b1 : status ≤ 65535) (w : World) (hl : laidE w) : CwR 3 #[.slice ad_l 0 cp_l, .int .u16 status] w (.bool true) := by
  by_cases h0 : (status % 300) + 200 = 204
  · exact path1 ad_l cp_l status b0 b1 h0 w hl
  · by_cases h1 : (status % 300) + 200 = 304
    · exact path2 ad_l cp_l status b0 b1 h0 h1 w hl
    · exact path0 ad_l cp_l status b0 b1 h0 h1 w hl
theorem walkR (blk_l : Nat) (base_l : Nat) (es_l : Nat) (l : List LB) (status : Int) (b0 : 1 ≤ l.length) (b1 : ∀ q, q ∈ l → q.length ≤ 140737488351232) (b2 : l.length ≤ 9223372036854775807) (b3 : 0 ≤ status) (b4 : status ≤ 65535) (w : World) (hl : laidE w) (w_l : InRow w 1 (l.map St') blk_l base_l l.length es_l) (g_l : ∀ e0 e2, (H0 e0 e2 ).get blk_l = none) : CwR 3 #[.slice (some ⟨blk_l, base_l, none⟩) l.length es_l, .int .u16 status] w (.bool true) := by
  by_cases h0 : 10 < (l.length : Int)
  · exact path7 blk_l base_l es_l l status b0 b1 b2 b3 b4 h0 w hl w_l g_l
  · by_cases h1 : ok3 l
    · by_cases h2 : (status % 300) + 200 = 204
      · exact path4 blk_l base_l es_l l status b0 b1 b2 b3 b4 h0 h1 h2 w hl w_l g_l
      · by_cases h3 : (status % 300) + 200 = 304
        · exact path5 blk_l base_l es_l l status b0 b1 b2 b3 b4 h0 h1 h2 h3 w hl w_l g_l
        · exact path3 blk_l base_l es_l l status b0 b1 b2 b3 b4 h0 h1 h2 h3 w hl w_l g_l
    · exact path6 blk_l base_l es_l l status b0 b1 b2 b3 b4 h0 h1 w hl w_l g_l
end Go.Proofs.YtmeiihmfamaphaaDoor.replyChunks
