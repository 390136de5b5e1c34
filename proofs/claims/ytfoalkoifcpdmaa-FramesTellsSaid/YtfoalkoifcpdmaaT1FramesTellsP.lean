/- A part of the proof: an interpreter of the model's own code on partly known states, and that what it answers is what the program answers. No condition of its own. -/
import Derived.Test.YtfoalkoifcpdmaaT1FramesTellsR0
import Derived.Test.YtfoalkoifcpdmaaT1FramesTellsR1
set_option maxRecDepth 100000
set_option linter.unusedVariables false
set_option linter.unusedSimpArgs false
set_option maxHeartbeats 4000000
namespace Go.Proofs.Ytfoalkoifcpdmaa.framesTells
open Go Go.AX Go.Proofs Go.Proofs.Ytfoalkoifcpdmaa
theorem walkE (t : Int) (id_ : Int) (ad_z : Option Addr) (cp_z : Nat) (body : LB) (b0 : -9223372036854775808 ≤ t) (b1 : t ≤ 9223372036854775807) (b2 : -9223372036854775808 ≤ id_) (b3 : id_ ≤ 9223372036854775807) (b4 : body.length ≤ 9223372036854775807) (w : World) (hl : aA5 w) : CwR 3 #[.int .i64 t, .int .i64 id_, .slice ad_z 0 cp_z, St' body] w (.bool true) := by
  by_cases h0 : 5000 < (body.length : Int)
  · exact path1 t id_ ad_z cp_z body b0 b1 b2 b3 b4 h0 w hl
  · exact path0 t id_ ad_z cp_z body b0 b1 b2 b3 b4 h0 w hl
theorem walkR (t : Int) (id_ : Int) (aB5 : Nat) (aB1 : Nat) (es_z : Nat) (z : List (LB × LB)) (body : LB) (b0 : -9223372036854775808 ≤ t) (b1 : t ≤ 9223372036854775807) (b2 : -9223372036854775808 ≤ id_) (b3 : id_ ≤ 9223372036854775807) (b4 : 1 ≤ z.length) (b5 : ∀ n, n ∈ z → prB n) (b6 : z.length ≤ 9223372036854775807) (b7 : body.length ≤ 9223372036854775807) (w : World) (hl : aA5 w) (w_z : bY5 w 2 (z.flatMap prC) aB5 aB1 z.length es_z) (g_z : (H0 ).get aB5 = none) : CwR 3 #[.int .i64 t, .int .i64 id_, .slice (some ⟨aB5, aB1, none⟩) z.length es_z, St' body] w (.bool true) := by
  by_cases h0 : 30 < (z.length : Int)
  · exact path4 t id_ aB5 aB1 es_z z body b0 b1 b2 b3 b4 b5 b6 b7 h0 w hl w_z g_z
  · by_cases h1 : 5000 < (body.length : Int)
    · exact path3 t id_ aB5 aB1 es_z z body b0 b1 b2 b3 b4 b5 b6 b7 h0 h1 w hl w_z g_z
    · by_cases h2 : ok6 z
      · exact path2 t id_ aB5 aB1 es_z z body b0 b1 b2 b3 b4 b5 b6 b7 h0 h1 h2 w hl w_z g_z
      · exact path5 t id_ aB5 aB1 es_z z body b0 b1 b2 b3 b4 b5 b6 b7 h0 h1 h2 w hl w_z g_z
end Go.Proofs.Ytfoalkoifcpdmaa.framesTells
