/- A part of the proof: an interpreter of the model's own code on partly known states, and that what it answers is what the program answers. No condition of its own. -/
import Derived.Test.YtlfmfmegnenohaaDoorG1CutterCutsR0
import Derived.Test.YtlfmfmegnenohaaDoorG1CutterCutsR1
import Derived.Test.YtlfmfmegnenohaaDoorG1CutterCutsR2
import Derived.Test.YtlfmfmegnenohaaDoorG1CutterCutsR3
import Derived.Test.YtlfmfmegnenohaaDoorG1CutterCutsR4
import Derived.Test.YtlfmfmegnenohaaDoorG1CutterCutsR5
import Derived.Test.YtlfmfmegnenohaaDoorG1CutterCutsR6
import Derived.Test.YtlfmfmegnenohaaDoorG1CutterCutsR7
set_option maxRecDepth 100000
set_option linter.unusedVariables false
set_option linter.unusedSimpArgs false
set_option maxHeartbeats 4000000
namespace Go.Proofs.YtlfmfmegnenohaaDoor.cutterCuts
open Go Go.AX Go.Proofs Go.Proofs.YtlfmfmegnenohaaDoor
theorem walkEE (ad_z : Option Addr) (cp_z : Nat) (mo : LB) (ad_at_ : Option Addr) (cp_at_ : Nat) (b0 : mo.length ≤ 9223372036854775807) (w : World) (hl : laidE w) : CwR 4 #[.slice ad_z 0 cp_z, St' mo, .slice ad_at_ 0 cp_at_] w (.bool true) := by
  by_cases h0 : 7 < (mo.length : Int)
  · exact path16 ad_z cp_z mo ad_at_ cp_at_ b0 h0 w hl
  · by_cases h1 : 0 < (mo.length : Int)
    · by_cases h2 : bt mo 0 = 1
      · by_cases h5 : 6 ≤ (mo.length : Int)
        · exact path3 ad_z cp_z mo ad_at_ cp_at_ b0 h0 h1 h2 h5 w hl
        · exact path2 ad_z cp_z mo ad_at_ cp_at_ b0 h0 h1 h2 h5 w hl
      · exact path1 ad_z cp_z mo ad_at_ cp_at_ b0 h0 h1 h2 w hl
    · exact path0 ad_z cp_z mo ad_at_ cp_at_ b0 h0 h1 w hl
theorem walkER (ad_z : Option Addr) (cp_z : Nat) (mo : LB) (blk_at_ : Nat) (base_at_ : Nat) (es_at_ : Nat) (at_ : List Int) (b0 : mo.length ≤ 9223372036854775807) (b1 : 1 ≤ at_.length) (b2 : ∀ n, n ∈ at_ → 0 ≤ n ∧ n ≤ 255) (b3 : at_.length ≤ 9223372036854775807) (w : World) (hl : laidE w) (w_at_ : InRow w 1 (at_.map (Value.int .u8)) blk_at_ base_at_ at_.length es_at_) (g_at_ : ∀ e, (H0 e ).get blk_at_ = none) : CwR 4 #[.slice ad_z 0 cp_z, St' mo, .slice (some ⟨blk_at_, base_at_, none⟩) at_.length es_at_] w (.bool true) := by
  by_cases h0 : 7 < (mo.length : Int)
  · exact path17 ad_z cp_z mo blk_at_ base_at_ es_at_ at_ b0 b1 b2 b3 h0 w hl w_at_ g_at_
  · by_cases h1 : 0 < (mo.length : Int)
    · by_cases h2 : bt mo 0 = 1
      · by_cases h5 : 6 ≤ (mo.length : Int)
        · exact path7 ad_z cp_z mo blk_at_ base_at_ es_at_ at_ b0 b1 b2 b3 h0 h1 h2 h5 w hl w_at_ g_at_
        · exact path6 ad_z cp_z mo blk_at_ base_at_ es_at_ at_ b0 b1 b2 b3 h0 h1 h2 h5 w hl w_at_ g_at_
      · exact path5 ad_z cp_z mo blk_at_ base_at_ es_at_ at_ b0 b1 b2 b3 h0 h1 h2 w hl w_at_ g_at_
    · exact path4 ad_z cp_z mo blk_at_ base_at_ es_at_ at_ b0 b1 b2 b3 h0 h1 w hl w_at_ g_at_
theorem walkRE (blk_z : Nat) (base_z : Nat) (es_z : Nat) (z : List (Int × Int × LB × Int)) (mo : LB) (ad_at_ : Option Addr) (cp_at_ : Nat) (b0 : 1 ≤ z.length) (b1 : ∀ n, n ∈ z → reB n) (b2 : z.length ≤ 9223372036854775807) (b3 : mo.length ≤ 9223372036854775807) (w : World) (hl : laidE w) (w_z : InRow w 4 (z.flatMap reC) blk_z base_z z.length es_z) (g_z : ∀ e, (H0 e ).get blk_z = none) : CwR 4 #[.slice (some ⟨blk_z, base_z, none⟩) z.length es_z, St' mo, .slice ad_at_ 0 cp_at_] w (.bool true) := by
  by_cases h0 : 10 < (z.length : Int)
  · exact path14 blk_z base_z es_z z mo ad_at_ cp_at_ b0 b1 b2 b3 h0 w hl w_z g_z
  · by_cases h1 : 7 < (mo.length : Int)
    · exact path18 blk_z base_z es_z z mo ad_at_ cp_at_ b0 b1 b2 b3 h0 h1 w hl w_z g_z
    · by_cases h2 : okR 300 z
      · by_cases h3 : 0 < (mo.length : Int)
        · by_cases h4 : bt mo 0 = 1
          · exact path10 blk_z base_z es_z z mo ad_at_ cp_at_ b0 b1 b2 b3 h0 h1 h2 h3 h4 w hl w_z g_z
          · exact path9 blk_z base_z es_z z mo ad_at_ cp_at_ b0 b1 b2 b3 h0 h1 h2 h3 h4 w hl w_z g_z
        · exact path8 blk_z base_z es_z z mo ad_at_ cp_at_ b0 b1 b2 b3 h0 h1 h2 h3 w hl w_z g_z
      · exact path20 blk_z base_z es_z z mo ad_at_ cp_at_ b0 b1 b2 b3 h0 h1 h2 w hl w_z g_z
theorem walkRR (blk_z : Nat) (base_z : Nat) (es_z : Nat) (z : List (Int × Int × LB × Int)) (mo : LB) (blk_at_ : Nat) (base_at_ : Nat) (es_at_ : Nat) (at_ : List Int) (b0 : 1 ≤ z.length) (b1 : ∀ n, n ∈ z → reB n) (b2 : z.length ≤ 9223372036854775807) (b3 : mo.length ≤ 9223372036854775807) (b4 : 1 ≤ at_.length) (b5 : ∀ n, n ∈ at_ → 0 ≤ n ∧ n ≤ 255) (b6 : at_.length ≤ 9223372036854775807) (w : World) (hl : laidE w) (w_z : InRow w 4 (z.flatMap reC) blk_z base_z z.length es_z) (g_z : ∀ e, (H0 e ).get blk_z = none) (w_at_ : InRow w 1 (at_.map (Value.int .u8)) blk_at_ base_at_ at_.length es_at_) (g_at_ : ∀ e, (H0 e ).get blk_at_ = none) : CwR 4 #[.slice (some ⟨blk_z, base_z, none⟩) z.length es_z, St' mo, .slice (some ⟨blk_at_, base_at_, none⟩) at_.length es_at_] w (.bool true) := by
  by_cases h0 : 10 < (z.length : Int)
  · exact path15 blk_z base_z es_z z mo blk_at_ base_at_ es_at_ at_ b0 b1 b2 b3 b4 b5 b6 h0 w hl w_z g_z w_at_ g_at_
  · by_cases h1 : 7 < (mo.length : Int)
    · exact path19 blk_z base_z es_z z mo blk_at_ base_at_ es_at_ at_ b0 b1 b2 b3 b4 b5 b6 h0 h1 w hl w_z g_z w_at_ g_at_
    · by_cases h2 : okR 300 z
      · by_cases h3 : 0 < (mo.length : Int)
        · by_cases h4 : bt mo 0 = 1
          · exact path13 blk_z base_z es_z z mo blk_at_ base_at_ es_at_ at_ b0 b1 b2 b3 b4 b5 b6 h0 h1 h2 h3 h4 w hl w_z g_z w_at_ g_at_
          · exact path12 blk_z base_z es_z z mo blk_at_ base_at_ es_at_ at_ b0 b1 b2 b3 b4 b5 b6 h0 h1 h2 h3 h4 w hl w_z g_z w_at_ g_at_
        · exact path11 blk_z base_z es_z z mo blk_at_ base_at_ es_at_ at_ b0 b1 b2 b3 b4 b5 b6 h0 h1 h2 h3 w hl w_z g_z w_at_ g_at_
      · exact path21 blk_z base_z es_z z mo blk_at_ base_at_ es_at_ at_ b0 b1 b2 b3 b4 b5 b6 h0 h1 h2 w hl w_z g_z w_at_ g_at_
end Go.Proofs.YtlfmfmegnenohaaDoor.cutterCuts
