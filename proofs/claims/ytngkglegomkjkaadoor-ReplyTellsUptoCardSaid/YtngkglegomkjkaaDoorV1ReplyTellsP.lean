/- A part of the proof: what an interpreter answers on partly known states is what the program answers. No condition. -/
import Derived.Test.YtngkglegomkjkaaDoorV1ReplyTellsR0
import Derived.Test.YtngkglegomkjkaaDoorV1ReplyTellsR1
set_option maxRecDepth 100000
set_option linter.unusedVariables false
set_option linter.unusedSimpArgs false
set_option maxHeartbeats 4000000
namespace Go.Proofs.YtngkglegomkjkaaDoor.replyTells
open Go Go.AX Go.Proofs Go.Proofs.YtngkglegomkjkaaDoor
theorem Bj (m : LB) (rt : LB) (q : Int) (aE : Option Addr) (aC : Nat) (aD : Nat) (rb : LB) (hs : Int) (aB : LB) (bT : Option Addr) (bS : Nat) (n : Int) (kp : Bool) (s : LB) (b0 : m.length ≤ 9223372036854775807) (b1 : rt.length ≤ 9223372036854775807) (b2 : -9223372036854775808 ≤ q) (b3 : q ≤ 9223372036854775807) (b4 : rb.length ≤ 9223372036854775807) (b5 : -9223372036854775808 ≤ hs) (b6 : hs ≤ 9223372036854775807) (b7 : aB.length ≤ 9223372036854775807) (b8 : -9223372036854775808 ≤ n) (b9 : n ≤ 9223372036854775807) (b10 : s.length ≤ 9223372036854775807) (w : World) (hl : aG w) : au 3 #[.agg #[St' m, St' rt, .int .i64 q, .slice aE aC aD, St' rb], .agg #[.int .i64 hs, St' aB, .slice bT 0 bS], .int .i64 n, .bool kp, St' s] w (.bool true) := by
 by_cases h0 : 40 < (m.length : Int)
 ·exact path1 m rt q aE aC aD rb hs aB bT bS n kp s b0 b1 b2 b3 b4 b5 b6 b7 b8 b9 b10 h0 w hl
 ·by_cases h1 : 200 < (aB.length : Int)
  ·exact path2 m rt q aE aC aD rb hs aB bT bS n kp s b0 b1 b2 b3 b4 b5 b6 b7 b8 b9 b10 h0 h1 w hl
  ·by_cases h2 : 2000 < (s.length : Int)
   ·exact path3 m rt q aE aC aD rb hs aB bT bS n kp s b0 b1 b2 b3 b4 b5 b6 b7 b8 b9 b10 h0 h1 h2 w hl
   ·exact path0 m rt q aE aC aD rb hs aB bT bS n kp s b0 b1 b2 b3 b4 b5 b6 b7 b8 b9 b10 h0 h1 h2 w hl
theorem walkR (m : LB) (rt : LB) (q : Int) (aE : Option Addr) (aC : Nat) (aD : Nat) (rb : LB) (hs : Int) (aB : LB) (bF : Nat) (bG : Nat) (bE : Nat) (z : List (LB × LB)) (n : Int) (kp : Bool) (s : LB) (b0 : m.length ≤ 9223372036854775807) (b1 : rt.length ≤ 9223372036854775807) (b2 : -9223372036854775808 ≤ q) (b3 : q ≤ 9223372036854775807) (b4 : rb.length ≤ 9223372036854775807) (b5 : -9223372036854775808 ≤ hs) (b6 : hs ≤ 9223372036854775807) (b7 : aB.length ≤ 9223372036854775807) (b8 : 1 ≤ z.length) (b9 : ∀ n, n ∈ z → cf n) (b10 : okB z) (b11 : z.length ≤ 9223372036854775807) (b12 : -9223372036854775808 ≤ n) (b13 : n ≤ 9223372036854775807) (b14 : s.length ≤ 9223372036854775807) (w : World) (hl : aG w) (de : lk w 2 (z.flatMap aM) bF bG z.length bE) : au 3 #[.agg #[St' m, St' rt, .int .i64 q, .slice aE aC aD, St' rb], .agg #[.int .i64 hs, St' aB, .slice (some ⟨bF, bG, none⟩) z.length bE], .int .i64 n, .bool kp, St' s] w (.bool true) := by
 by_cases h0 : 40 < (m.length : Int)
 ·exact path5 m rt q aE aC aD rb hs aB bF bG bE z n kp s b0 b1 b2 b3 b4 b5 b6 b7 b8 b9 b10 b11 b12 b13 b14 h0 w hl de
 ·by_cases h1 : 20 < (z.length : Int)
  ·exact path8 m rt q aE aC aD rb hs aB bF bG bE z n kp s b0 b1 b2 b3 b4 b5 b6 b7 b8 b9 b10 b11 b12 b13 b14 h0 h1 w hl de
  ·by_cases h2 : 200 < (aB.length : Int)
   ·exact path6 m rt q aE aC aD rb hs aB bF bG bE z n kp s b0 b1 b2 b3 b4 b5 b6 b7 b8 b9 b10 b11 b12 b13 b14 h0 h1 h2 w hl de
   ·by_cases h3 : 2000 < (s.length : Int)
    ·exact path7 m rt q aE aC aD rb hs aB bF bG bE z n kp s b0 b1 b2 b3 b4 b5 b6 b7 b8 b9 b10 b11 b12 b13 b14 h0 h1 h2 h3 w hl de
    ·exact path4 m rt q aE aC aD rb hs aB bF bG bE z n kp s b0 b1 b2 b3 b4 b5 b6 b7 b8 b9 b10 b11 b12 b13 b14 h0 h1 h2 h3 w hl de
end Go.Proofs.YtngkglegomkjkaaDoor.replyTells
