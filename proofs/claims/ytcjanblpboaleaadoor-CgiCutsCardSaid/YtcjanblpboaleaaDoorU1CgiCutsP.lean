/- A part of the proof: what an interpreter answers on partly known states is what the program answers. No condition. -/
import Derived.Test.YtcjanblpboaleaaDoorU1CgiCutsR0
import Derived.Test.YtcjanblpboaleaaDoorU1CgiCutsR1
import Derived.Test.YtcjanblpboaleaaDoorU1CgiCutsR2
import Derived.Test.YtcjanblpboaleaaDoorU1CgiCutsR3
set_option maxRecDepth 100000
set_option linter.unusedVariables false
set_option linter.unusedSimpArgs false
set_option maxHeartbeats 4000000
namespace Go.Proofs.YtcjanblpboaleaaDoor.cgiCuts
open Go Go.AX Go.Proofs Go.Proofs.YtcjanblpboaleaaDoor
theorem Bl (s : LB) (ba : Option Addr) (bY : Nat) (b0 : s.length ≤ 9223372036854775807) (w : World) (hl : aH w) : bp 3 #[St' s, .slice ba 0 bY] w (.bool true) := by
 by_cases h0 : 1500 < (s.length : Int)
 ·exact path4 s ba bY b0 h0 w hl
 ·by_cases h1 : wG s ((0 : Int) + (s.length : Int)) = 0
  ·exact path0 s ba bY b0 h0 h1 w hl
  ·by_cases h2 : wG s ((0 : Int) + (s.length : Int)) = 1
   ·by_cases h3 : DS s = []
    ·exact path1 s ba bY b0 h0 h1 h2 h3 w hl
    ·exact path2 s ba bY b0 h0 h1 h2 h3 w hl
   ·exact path3 s ba bY b0 h0 h1 h2 w hl
theorem walkR (s : LB) (bN : Nat) (bO : Nat) (bM : Nat) (at_ : List Int) (b0 : s.length ≤ 9223372036854775807) (b1 : 1 ≤ at_.length) (b2 : ∀ n, n ∈ at_ → 0 ≤ n ∧ n ≤ 255) (b3 : at_.length ≤ 9223372036854775807) (w : World) (hl : aH w) (eL : nO w 1 (at_.map (Value.int .u8)) bN bO at_.length bM) : bp 3 #[St' s, .slice (some ⟨bN, bO, none⟩) at_.length bM] w (.bool true) := by
 by_cases h0 : 1500 < (s.length : Int)
 ·exact path9 s bN bO bM at_ b0 b1 b2 b3 h0 w hl eL
 ·by_cases h1 : wG s ((0 : Int) + (s.length : Int)) = 0
  ·exact path5 s bN bO bM at_ b0 b1 b2 b3 h0 h1 w hl eL
  ·by_cases h2 : wG s ((0 : Int) + (s.length : Int)) = 1
   ·by_cases h3 : DS s = []
    ·exact path6 s bN bO bM at_ b0 b1 b2 b3 h0 h1 h2 h3 w hl eL
    ·exact path7 s bN bO bM at_ b0 b1 b2 b3 h0 h1 h2 h3 w hl eL
   ·exact path8 s bN bO bM at_ b0 b1 b2 b3 h0 h1 h2 w hl eL
end Go.Proofs.YtcjanblpboaleaaDoor.cgiCuts
