/- A part of the proof: an interpreter of the model's own code on partly known states, and that what it answers is what the program answers. No condition of its own. -/
import Derived.Test.YtejdkoheodambaaB1KindBackR0
set_option maxRecDepth 100000
set_option linter.unusedVariables false
set_option linter.unusedSimpArgs false
namespace Go.Proofs.Ytejdkoheodambaa.kindBack
open Go Go.AX Go.Proofs Go.Proofs.Ytejdkoheodambaa
theorem walk (id : Int) (keep : Bool) (app : Int) (pr : Int) (fl : Int) (b0 : 0 ≤ id) (b1 : id ≤ 65535) (b2 : 0 ≤ app) (b3 : app ≤ 4294967295) (b4 : 0 ≤ pr) (b5 : pr ≤ 255) (b6 : 0 ≤ fl) (b7 : fl ≤ 255) (w : World) (hl : laidE w) : Calls Try.prog 5 #[.int .u16 id, .bool keep, .int .u32 app, .int .u8 pr, .int .u8 fl] w fun e w' => e = .returned (.bool true) ∧ Go.AX.Below w.heap.size w w' := by
  cases keep
  · by_cases h0 : fl % 2 = 0
    · exact path0 id app pr fl b0 b1 b2 b3 b4 b5 b6 b7 h0 w hl
    · exact path1 id app pr fl b0 b1 b2 b3 b4 b5 b6 b7 h0 w hl
  · by_cases h0 : fl % 2 = 0
    · exact path2 id app pr fl b0 b1 b2 b3 b4 b5 b6 b7 h0 w hl
    · exact path3 id app pr fl b0 b1 b2 b3 b4 b5 b6 b7 h0 w hl
end Go.Proofs.Ytejdkoheodambaa.kindBack
