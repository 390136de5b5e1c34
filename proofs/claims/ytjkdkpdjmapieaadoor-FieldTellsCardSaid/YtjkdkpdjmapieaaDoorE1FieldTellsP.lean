/- A part of the proof: what an interpreter answers on partly known states is what the program answers. No condition. -/
import Derived.Test.YtjkdkpdjmapieaaDoorE1FieldTellsR0
import Derived.Test.YtjkdkpdjmapieaaDoorE1FieldTellsR1
import Derived.Test.YtjkdkpdjmapieaaDoorE1FieldTellsR2
import Derived.Test.YtjkdkpdjmapieaaDoorE1FieldTellsR3
set_option maxRecDepth 100000
set_option linter.unusedVariables false
set_option linter.unusedSimpArgs false
set_option maxHeartbeats 4000000
namespace Go.Proofs.YtjkdkpdjmapieaaDoor.fieldTells
open Go Go.AX Go.Proofs Go.Proofs.YtjkdkpdjmapieaaDoor
theorem CR (ln : LB) (bW : Option Addr) (bV : Nat) (nm : LB) (wd : LB) (b0 : ln.length ≤ 9223372036854775807) (b1 : nm.length ≤ 9223372036854775807) (b2 : wd.length ≤ 9223372036854775807) (w : World) (hl : aC w) : bN 4 #[St' ln, .slice bW 0 bV, St' nm, St' wd] w (.bool true) := by
  by_cases h0 : 1500 < (ln.length : Int)
  · exact path4 ln bW bV nm wd b0 b1 b2 h0 w hl
  · by_cases h1 : 100 < (nm.length : Int)
    · exact path7 ln bW bV nm wd b0 b1 b2 h0 h1 w hl
    · by_cases h2 : 100 < (wd.length : Int)
      · exact path9 ln bW bV nm wd b0 b1 b2 h0 h1 h2 w hl
      · exact path0 ln bW bV nm wd b0 b1 b2 h0 h1 h2 w hl
theorem walkR (ln : LB) (aZ : Nat) (ad : Nat) (ab : Nat) (z : List (LB × LB)) (nm : LB) (wd : LB) (b0 : ln.length ≤ 9223372036854775807) (b1 : 1 ≤ z.length) (b2 : ∀ n, n ∈ z → dH n) (b3 : ∀ q, q ∈ z → q.1.length ≤ 140737488351232) (b4 : ∀ q, q ∈ z → q.2.length ≤ 140737488351232) (b5 : z.length ≤ 9223372036854775807) (b6 : nm.length ≤ 9223372036854775807) (b7 : wd.length ≤ 9223372036854775807) (w : World) (hl : aC w) (cQ : iJ w 2 (z.flatMap aK) aZ ad z.length ab) (dC : ∀ e, (H0 e ).get aZ = none) : bN 4 #[St' ln, .slice (some ⟨aZ, ad, none⟩) z.length ab, St' nm, St' wd] w (.bool true) := by
  by_cases h0 : 1500 < (ln.length : Int)
  · exact path6 ln aZ ad ab z nm wd b0 b1 b2 b3 b4 b5 b6 b7 h0 w hl cQ dC
  · by_cases h1 : 20 < (z.length : Int)
    · exact path5 ln aZ ad ab z nm wd b0 b1 b2 b3 b4 b5 b6 b7 h0 h1 w hl cQ dC
    · by_cases h2 : 100 < (nm.length : Int)
      · exact path8 ln aZ ad ab z nm wd b0 b1 b2 b3 b4 b5 b6 b7 h0 h1 h2 w hl cQ dC
      · by_cases h3 : 100 < (wd.length : Int)
        · exact path10 ln aZ ad ab z nm wd b0 b1 b2 b3 b4 b5 b6 b7 h0 h1 h2 h3 w hl cQ dC
        · by_cases h4 : dS z = true
          · by_cases h6 : av nm z = []
            · exact path2 ln aZ ad ab z nm wd b0 b1 b2 b3 b4 b5 b6 b7 h0 h1 h2 h3 h4 h6 w hl cQ dC
            · by_cases h8 : bb nm z = []
              · exact path1 ln aZ ad ab z nm wd b0 b1 b2 b3 b4 b5 b6 b7 h0 h1 h2 h3 h4 h6 h8 w hl cQ dC
              · exact path3 ln aZ ad ab z nm wd b0 b1 b2 b3 b4 b5 b6 b7 h0 h1 h2 h3 h4 h6 h8 w hl cQ dC
          · exact path11 ln aZ ad ab z nm wd b0 b1 b2 b3 b4 b5 b6 b7 h0 h1 h2 h3 h4 w hl cQ dC
end Go.Proofs.YtjkdkpdjmapieaaDoor.fieldTells
