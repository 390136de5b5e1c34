/- A part of the proof: an interpreter of the model's own code on partly known states, and that what it answers is what the program answers. No condition of its own. -/
import Derived.Test.YtfoalkoifcpdmaaT1FramesBackR0
import Derived.Test.YtfoalkoifcpdmaaT1FramesBackR1
import Derived.Test.YtfoalkoifcpdmaaT1FramesBackR2
set_option maxRecDepth 100000
set_option linter.unusedVariables false
set_option linter.unusedSimpArgs false
set_option maxHeartbeats 4000000
namespace Go.Proofs.Ytfoalkoifcpdmaa.framesBack
open Go Go.AX Go.Proofs Go.Proofs.Ytfoalkoifcpdmaa
theorem walkE (id_ : Int) (ad_z : Option Addr) (cp_z : Nat) (body : LB) (b0 : 0 ≤ id_) (b1 : id_ ≤ 255) (b2 : body.length ≤ 9223372036854775807) (w : World) (hl : aB0 w) : CwR 4 #[.int .u8 id_, .slice ad_z 0 cp_z, St' body] w (.bool true) := by
  by_cases h0 : 5000 < (body.length : Int)
  · exact path1 id_ ad_z cp_z body b0 b1 b2 h0 w hl
  · by_cases h1 : id_ = 0
    · exact path6 id_ ad_z cp_z body b0 b1 b2 h0 h1 w hl
    · exact path0 id_ ad_z cp_z body b0 b1 b2 h0 h1 w hl
theorem walkR (id_ : Int) (aB9 : Nat) (aB6 : Nat) (es_z : Nat) (z : List (LB × LB)) (body : LB) (b0 : 0 ≤ id_) (b1 : id_ ≤ 255) (b2 : 1 ≤ z.length) (b3 : ∀ n, n ∈ z → prB n) (b4 : z.length ≤ 9223372036854775807) (b5 : body.length ≤ 9223372036854775807) (w : World) (hl : aB0 w) (w_z : cV0 w 2 (z.flatMap prC) aB9 aB6 z.length es_z) (g_z : (H0 ).get aB9 = none) : CwR 4 #[.int .u8 id_, .slice (some ⟨aB9, aB6, none⟩) z.length es_z, St' body] w (.bool true) := by
  by_cases h0 : 30 < (z.length : Int)
  · exact path4 id_ aB9 aB6 es_z z body b0 b1 b2 b3 b4 b5 h0 w hl w_z g_z
  · by_cases h1 : 5000 < (body.length : Int)
    · exact path3 id_ aB9 aB6 es_z z body b0 b1 b2 b3 b4 b5 h0 h1 w hl w_z g_z
    · by_cases h2 : id_ = 0
      · exact path7 id_ aB9 aB6 es_z z body b0 b1 b2 b3 b4 b5 h0 h1 h2 w hl w_z g_z
      · by_cases h3 : ok6 z
        · exact path2 id_ aB9 aB6 es_z z body b0 b1 b2 b3 b4 b5 h0 h1 h2 h3 w hl w_z g_z
        · exact path5 id_ aB9 aB6 es_z z body b0 b1 b2 b3 b4 b5 h0 h1 h2 h3 w hl w_z g_z
end Go.Proofs.Ytfoalkoifcpdmaa.framesBack
