/- A part of the proof: an interpreter of the model's own code on partly known states, and that what it answers is what the program answers. No condition of its own. -/
import Derived.Test.YtejdkoheodambaaDoorB2KindTellsR0
import Derived.Test.YtejdkoheodambaaDoorB2KindTellsR1
set_option maxRecDepth 100000
set_option linter.unusedVariables false
set_option linter.unusedSimpArgs false
namespace Go.Proofs.YtejdkoheodambaaDoor.kindTells
open Go Go.AX Go.Proofs Go.Proofs.YtejdkoheodambaaDoor
theorem walk (id : Int) (keep : Bool) (ap : Int) (pr : Int) (t : Int) (rt : Int) (ri : Int) (c : List UInt8) (rp : Int) (b0 : -9223372036854775808 ≤ id) (b1 : id ≤ 9223372036854775807) (b2 : 0 ≤ ap) (b3 : ap ≤ 4294967295) (b4 : -9223372036854775808 ≤ pr) (b5 : pr ≤ 9223372036854775807) (b6 : -9223372036854775808 ≤ t) (b7 : t ≤ 9223372036854775807) (b8 : -9223372036854775808 ≤ rt) (b9 : rt ≤ 9223372036854775807) (b10 : -9223372036854775808 ≤ ri) (b11 : ri ≤ 9223372036854775807) (b12 : c.length ≤ 9223372036854775807) (b13 : -9223372036854775808 ≤ rp) (b14 : rp ≤ 9223372036854775807) (w : World) (hl : laidE w) : Calls Tryd.prog 7 #[.int .i64 id, .bool keep, .agg #[.int .u32 ap, .int .i64 pr], .int .i64 t, .agg #[.int .i64 rt, .int .i64 ri, St' c, .int .i64 rp]] w fun e w' => e = .returned (.bool true) ∧ Go.AX.Below w.heap.size w w' := by
  cases keep
  · by_cases h0 : 200 < (c.length : Int)
    · exact path3 id ap pr t rt ri c rp b0 b1 b2 b3 b4 b5 b6 b7 b8 b9 b10 b11 b12 b13 b14 h0 w hl
    · by_cases h1 : rt = 1
      · by_cases h2 : (c.length : Int) = 8
        · by_cases h3 : (bt c 2) % 2 = 0
          · exact path1 id ap pr t rt ri c rp b0 b1 b2 b3 b4 b5 b6 b7 b8 b9 b10 b11 b12 b13 b14 h0 h1 h2 h3 w hl
          · exact path0 id ap pr t rt ri c rp b0 b1 b2 b3 b4 b5 b6 b7 b8 b9 b10 b11 b12 b13 b14 h0 h1 h2 h3 w hl
        · exact path2 id ap pr t rt ri c rp b0 b1 b2 b3 b4 b5 b6 b7 b8 b9 b10 b11 b12 b13 b14 h0 h1 h2 w hl
      · by_cases h2 : rt = 3
        · by_cases h3 : (c.length : Int) = 8
          · exact path4 id ap pr t rt ri c rp b0 b1 b2 b3 b4 b5 b6 b7 b8 b9 b10 b11 b12 b13 b14 h0 h1 h2 h3 w hl
          · exact path5 id ap pr t rt ri c rp b0 b1 b2 b3 b4 b5 b6 b7 b8 b9 b10 b11 b12 b13 b14 h0 h1 h2 h3 w hl
        · exact path6 id ap pr t rt ri c rp b0 b1 b2 b3 b4 b5 b6 b7 b8 b9 b10 b11 b12 b13 b14 h0 h1 h2 w hl
  · by_cases h0 : 200 < (c.length : Int)
    · exact path10 id ap pr t rt ri c rp b0 b1 b2 b3 b4 b5 b6 b7 b8 b9 b10 b11 b12 b13 b14 h0 w hl
    · by_cases h1 : rt = 1
      · by_cases h2 : (c.length : Int) = 8
        · by_cases h3 : (bt c 2) % 2 = 0
          · exact path8 id ap pr t rt ri c rp b0 b1 b2 b3 b4 b5 b6 b7 b8 b9 b10 b11 b12 b13 b14 h0 h1 h2 h3 w hl
          · exact path7 id ap pr t rt ri c rp b0 b1 b2 b3 b4 b5 b6 b7 b8 b9 b10 b11 b12 b13 b14 h0 h1 h2 h3 w hl
        · exact path9 id ap pr t rt ri c rp b0 b1 b2 b3 b4 b5 b6 b7 b8 b9 b10 b11 b12 b13 b14 h0 h1 h2 w hl
      · by_cases h2 : rt = 3
        · by_cases h3 : (c.length : Int) = 8
          · exact path11 id ap pr t rt ri c rp b0 b1 b2 b3 b4 b5 b6 b7 b8 b9 b10 b11 b12 b13 b14 h0 h1 h2 h3 w hl
          · exact path12 id ap pr t rt ri c rp b0 b1 b2 b3 b4 b5 b6 b7 b8 b9 b10 b11 b12 b13 b14 h0 h1 h2 h3 w hl
        · exact path13 id ap pr t rt ri c rp b0 b1 b2 b3 b4 b5 b6 b7 b8 b9 b10 b11 b12 b13 b14 h0 h1 h2 w hl
end Go.Proofs.YtejdkoheodambaaDoor.kindTells
