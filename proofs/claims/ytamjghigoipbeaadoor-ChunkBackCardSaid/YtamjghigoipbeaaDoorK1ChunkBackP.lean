/- A part of the proof: an interpreter of the model's own code on partly known states, and that what it answers is what the program answers. No condition of its own. -/
import Derived.Test.YtamjghigoipbeaaDoorK1ChunkBackR0
import Derived.Test.YtamjghigoipbeaaDoorK1ChunkBackR1
import Derived.Test.YtamjghigoipbeaaDoorK1ChunkBackR2
import Derived.Test.YtamjghigoipbeaaDoorK1ChunkBackR3
import Derived.Test.YtamjghigoipbeaaDoorK1ChunkBackR4
set_option maxRecDepth 100000
set_option linter.unusedVariables false
set_option linter.unusedSimpArgs false
set_option maxHeartbeats 4000000
namespace Go.Proofs.YtamjghigoipbeaaDoor.chunkBack
open Go Go.AX Go.Proofs Go.Proofs.YtamjghigoipbeaaDoor
theorem walkEE (ad_l : Option Addr) (cp_l : Nat) (more : LB) (ad_at_ : Option Addr) (cp_at_ : Nat) (b0 : more.length ≤ 9223372036854775807) (w : World) (hl : laidE w) : CwR 3 #[.slice ad_l 0 cp_l, St' more, .slice ad_at_ 0 cp_at_] w (.bool true) := by
  by_cases h0 : 100 < (more.length : Int)
  · exact path10 ad_l cp_l more ad_at_ cp_at_ b0 h0 w hl
  · exact path0 ad_l cp_l more ad_at_ cp_at_ b0 h0 w hl
theorem walkER (ad_l : Option Addr) (cp_l : Nat) (more : LB) (blk_at_ : Nat) (base_at_ : Nat) (es_at_ : Nat) (at_ : List Int) (b0 : more.length ≤ 9223372036854775807) (b1 : 1 ≤ at_.length) (b2 : ∀ n, n ∈ at_ → 0 ≤ n ∧ n ≤ 255) (b3 : at_.length ≤ 9223372036854775807) (w : World) (hl : laidE w) (w_at_ : InRow w 1 (at_.map (Value.int .u8)) blk_at_ base_at_ at_.length es_at_) : CwR 3 #[.slice ad_l 0 cp_l, St' more, .slice (some ⟨blk_at_, base_at_, none⟩) at_.length es_at_] w (.bool true) := by
  by_cases h0 : 100 < (more.length : Int)
  · exact path11 ad_l cp_l more blk_at_ base_at_ es_at_ at_ b0 b1 b2 b3 h0 w hl w_at_
  · exact path1 ad_l cp_l more blk_at_ base_at_ es_at_ at_ b0 b1 b2 b3 h0 w hl w_at_
theorem walkRE (blk_l : Nat) (base_l : Nat) (es_l : Nat) (l : List LB) (more : LB) (ad_at_ : Option Addr) (cp_at_ : Nat) (b0 : 1 ≤ l.length) (b1 : ∀ q, q ∈ l → q.length ≤ 140737488351232) (b2 : l.length ≤ 9223372036854775807) (b3 : more.length ≤ 9223372036854775807) (w : World) (hl : laidE w) (w_l : InRow w 1 (l.map St') blk_l base_l l.length es_l) : CwR 3 #[.slice (some ⟨blk_l, base_l, none⟩) l.length es_l, St' more, .slice ad_at_ 0 cp_at_] w (.bool true) := by
  by_cases h0 : 10 < (l.length : Int)
  · exact path8 blk_l base_l es_l l more ad_at_ cp_at_ b0 b1 b2 b3 h0 w hl w_l
  · by_cases h1 : 100 < (more.length : Int)
    · exact path12 blk_l base_l es_l l more ad_at_ cp_at_ b0 b1 b2 b3 h0 h1 w hl w_l
    · by_cases h2 : ok3 l
      · by_cases h3 : (List.flatten l).length = 0
        · exact path4 blk_l base_l es_l l more ad_at_ cp_at_ b0 b1 b2 b3 h0 h1 h2 h3 w hl w_l
        · exact path2 blk_l base_l es_l l more ad_at_ cp_at_ b0 b1 b2 b3 h0 h1 h2 h3 w hl w_l
      · exact path6 blk_l base_l es_l l more ad_at_ cp_at_ b0 b1 b2 b3 h0 h1 h2 w hl w_l
theorem walkRR (blk_l : Nat) (base_l : Nat) (es_l : Nat) (l : List LB) (more : LB) (blk_at_ : Nat) (base_at_ : Nat) (es_at_ : Nat) (at_ : List Int) (b0 : 1 ≤ l.length) (b1 : ∀ q, q ∈ l → q.length ≤ 140737488351232) (b2 : l.length ≤ 9223372036854775807) (b3 : more.length ≤ 9223372036854775807) (b4 : 1 ≤ at_.length) (b5 : ∀ n, n ∈ at_ → 0 ≤ n ∧ n ≤ 255) (b6 : at_.length ≤ 9223372036854775807) (w : World) (hl : laidE w) (w_l : InRow w 1 (l.map St') blk_l base_l l.length es_l) (w_at_ : InRow w 1 (at_.map (Value.int .u8)) blk_at_ base_at_ at_.length es_at_) : CwR 3 #[.slice (some ⟨blk_l, base_l, none⟩) l.length es_l, St' more, .slice (some ⟨blk_at_, base_at_, none⟩) at_.length es_at_] w (.bool true) := by
  by_cases h0 : 10 < (l.length : Int)
  · exact path9 blk_l base_l es_l l more blk_at_ base_at_ es_at_ at_ b0 b1 b2 b3 b4 b5 b6 h0 w hl w_l w_at_
  · by_cases h1 : 100 < (more.length : Int)
    · exact path13 blk_l base_l es_l l more blk_at_ base_at_ es_at_ at_ b0 b1 b2 b3 b4 b5 b6 h0 h1 w hl w_l w_at_
    · by_cases h2 : ok3 l
      · by_cases h3 : (List.flatten l).length = 0
        · exact path5 blk_l base_l es_l l more blk_at_ base_at_ es_at_ at_ b0 b1 b2 b3 b4 b5 b6 h0 h1 h2 h3 w hl w_l w_at_
        · exact path3 blk_l base_l es_l l more blk_at_ base_at_ es_at_ at_ b0 b1 b2 b3 b4 b5 b6 h0 h1 h2 h3 w hl w_l w_at_
      · exact path7 blk_l base_l es_l l more blk_at_ base_at_ es_at_ at_ b0 b1 b2 b3 b4 b5 b6 h0 h1 h2 w hl w_l w_at_
end Go.Proofs.YtamjghigoipbeaaDoor.chunkBack
