/- A part of the proof: what an interpreter answers on partly known states is what the program answers. No condition. -/
import Derived.Test.YtngkglegomkjkaaDoorV1ReplyTellsO10
set_option maxRecDepth 100000
set_option linter.unusedVariables false
set_option linter.unusedSimpArgs false
set_option maxHeartbeats 4000000
namespace Go.Proofs.YtngkglegomkjkaaDoor.replyTells
open Go Go.AX Go.Proofs Go.Proofs.YtngkglegomkjkaaDoor
def hy5 : LK := [(.bytes [], .x 10),
 (.rn, .x 2000001),
 (.len (.x 0), .x 11),
 (.bin .gtr (.x 11) (I6 40), .b true)]
theorem run5 : Go.AX.okB (call (aR hy5) 9000 3 [.ag [.x 0, .x 1, .x 2, .x 3, .x 4], .ag [.x 5, .x 6, .sr 3], .x 7, .x 8, .x 9] ⟨iW 3 [.r 2000000 37 2 true] .leaf, 3 + List.length (α := aZ) [.r 2000000 37 2 true], 0, 0⟩) = true := by kernel_rfl
def nu5 (m : LB) (rt : LB) (q : Int) (aE : Option Addr) (aC : Nat) (aD : Nat) (rb : LB) (hs : Int) (aB : LB) (bF : Nat) (bG : Nat) (bE : Nat) (z : List (LB × LB)) (n : Int) (kp : Bool) (s : LB) : List Value := [St' m,
 St' rt,
 .int .i64 (q),
 .slice aE aC aD,
 St' rb,
 .int .i64 (hs),
 St' aB,
 .int .i64 (n),
 .bool kp,
 St' s,
 St' ([] : LB),
 .int .i64 ((m.length : Int))]
def ro5 (m : LB) (rt : LB) (q : Int) (aE : Option Addr) (aC : Nat) (aD : Nat) (rb : LB) (hs : Int) (aB : LB) (bF : Nat) (bG : Nat) (bE : Nat) (z : List (LB × LB)) (n : Int) (kp : Bool) (s : LB) : List Value := [aN aM z,
 bJ ([] : List LB)]
theorem on5 (m : LB) (rt : LB) (q : Int) (aE : Option Addr) (aC : Nat) (aD : Nat) (rb : LB) (hs : Int) (aB : LB) (bF : Nat) (bG : Nat) (bE : Nat) (z : List (LB × LB)) (n : Int) (kp : Bool) (s : LB) : ∀ j, (aY (nu5 m rt q aE aC aD rb hs aB bF bG bE z n kp s) j).oneCell' = true := aT (l := nu5 m rt q aE aC aD rb hs aB bF bG bE z n kp s) rfl
theorem path5 (m : LB) (rt : LB) (q : Int) (aE : Option Addr) (aC : Nat) (aD : Nat) (rb : LB) (hs : Int) (aB : LB) (bF : Nat) (bG : Nat) (bE : Nat) (z : List (LB × LB)) (n : Int) (kp : Bool) (s : LB) (b0 : m.length ≤ 9223372036854775807) (b1 : rt.length ≤ 9223372036854775807) (b2 : -9223372036854775808 ≤ q) (b3 : q ≤ 9223372036854775807) (b4 : rb.length ≤ 9223372036854775807) (b5 : -9223372036854775808 ≤ hs) (b6 : hs ≤ 9223372036854775807) (b7 : aB.length ≤ 9223372036854775807) (b8 : 1 ≤ z.length) (b9 : ∀ n, n ∈ z → cf n) (b10 : okB z) (b11 : z.length ≤ 9223372036854775807) (b12 : -9223372036854775808 ≤ n) (b13 : n ≤ 9223372036854775807) (b14 : s.length ≤ 9223372036854775807) (h0 : 40 < (m.length : Int)) (w : World) (hl : aG w) (de : lk w 2 (z.flatMap aM) bF bG z.length bE) : au 3 #[.agg #[St' m, St' rt, .int .i64 q, .slice aE aC aD, St' rb], .agg #[.int .i64 hs, St' aB, .slice (some ⟨bF, bG, none⟩) z.length bE], .int .i64 n, .bool kp, St' s] w (.bool true) := by
 have hn0 := hN0
 have ho : ∀ k r, (k, r) ∈ hy5 → aS (cx (ay (nu5 m rt q aE aC aD rb hs aB bF bG bE z n kp s) (rX (ro5 m rt q aE aC aD rb hs aB bF bG bE z n kp s) (fun _ => .bool true))) (az (on5 m rt q aE aC aD rb hs aB bF bG bE z n kp s)) 3 aG aJ) k r := by
  unfold hy5
  exact hc (kB0 rfl) <|hc (eH (aF rfl)) <|hc bZ <|hc fM <|hnil
 obtain ⟨fi, hfi, hb⟩ := lN
 exact po (tb := (aR hy5)) ((ab (ay (nu5 m rt q aE aC aD rb hs aB bF bG bE z n kp s) (rX (ro5 m rt q aE aC aD rb hs aB bF bG bE z n kp s) (fun _ => .bool true))) (az (on5 m rt q aE aC aD rb hs aB bF bG bE z n kp s))).hyps ho) rfl hfi hb [.r 2000000 37 2 true] [⟨bF, bG, z.length, bE⟩] run5 (args := [.agg #[St' m, St' rt, .int .i64 q, .slice aE aC aD, St' rb], .agg #[.int .i64 hs, St' aB, .slice (some ⟨bF, bG, none⟩) z.length bE], .int .i64 n, .bool kp, St' s]) ⟨_, _, rfl, ⟨_, rfl, ⟨_, _, rfl, rfl, ⟨_, _, rfl, rfl, ⟨_, _, rfl, rfl, ⟨_, _, rfl, rfl, ⟨_, _, rfl, rfl, rfl⟩⟩⟩⟩⟩⟩, ⟨_, _, rfl, ⟨_, rfl, ⟨_, _, rfl, rfl, ⟨_, _, rfl, rfl, ⟨_, _, rfl, qC (by decide) rfl de.room, rfl⟩⟩⟩⟩, ⟨_, _, rfl, rfl, ⟨_, _, rfl, rfl, ⟨_, _, rfl, rfl, rfl⟩⟩⟩⟩⟩ w hl rfl (by decide) (rk (de.arg (T.cy _) rfl) rj) rfl
def hy6 : LK := [(.bytes [], .x 10),
 (.rn, .x 2000001),
 (.len (.x 0), .x 11),
 (.bin .gtr (.x 11) (I6 40), .b false),
 (.rl (.x 2000000) 2, .x 12),
 (.bin .gtr (.x 12) (I6 20), .b false),
 (.len (.x 6), .x 13),
 (.bin .gtr (.x 13) (I6 200), .b true)]
theorem run6 : Go.AX.okB (call (aR hy6) 9000 3 [.ag [.x 0, .x 1, .x 2, .x 3, .x 4], .ag [.x 5, .x 6, .sr 3], .x 7, .x 8, .x 9] ⟨iW 3 [.r 2000000 37 2 true] .leaf, 3 + List.length (α := aZ) [.r 2000000 37 2 true], 0, 0⟩) = true := by kernel_rfl
def nu6 (m : LB) (rt : LB) (q : Int) (aE : Option Addr) (aC : Nat) (aD : Nat) (rb : LB) (hs : Int) (aB : LB) (bF : Nat) (bG : Nat) (bE : Nat) (z : List (LB × LB)) (n : Int) (kp : Bool) (s : LB) : List Value := [St' m,
 St' rt,
 .int .i64 (q),
 .slice aE aC aD,
 St' rb,
 .int .i64 (hs),
 St' aB,
 .int .i64 (n),
 .bool kp,
 St' s,
 St' ([] : LB),
 .int .i64 ((m.length : Int)),
 .int .i64 ((z.length : Int)),
 .int .i64 ((aB.length : Int))]
def ro6 (m : LB) (rt : LB) (q : Int) (aE : Option Addr) (aC : Nat) (aD : Nat) (rb : LB) (hs : Int) (aB : LB) (bF : Nat) (bG : Nat) (bE : Nat) (z : List (LB × LB)) (n : Int) (kp : Bool) (s : LB) : List Value := [aN aM z,
 bJ ([] : List LB)]
theorem on6 (m : LB) (rt : LB) (q : Int) (aE : Option Addr) (aC : Nat) (aD : Nat) (rb : LB) (hs : Int) (aB : LB) (bF : Nat) (bG : Nat) (bE : Nat) (z : List (LB × LB)) (n : Int) (kp : Bool) (s : LB) : ∀ j, (aY (nu6 m rt q aE aC aD rb hs aB bF bG bE z n kp s) j).oneCell' = true := aT (l := nu6 m rt q aE aC aD rb hs aB bF bG bE z n kp s) rfl
theorem path6 (m : LB) (rt : LB) (q : Int) (aE : Option Addr) (aC : Nat) (aD : Nat) (rb : LB) (hs : Int) (aB : LB) (bF : Nat) (bG : Nat) (bE : Nat) (z : List (LB × LB)) (n : Int) (kp : Bool) (s : LB) (b0 : m.length ≤ 9223372036854775807) (b1 : rt.length ≤ 9223372036854775807) (b2 : -9223372036854775808 ≤ q) (b3 : q ≤ 9223372036854775807) (b4 : rb.length ≤ 9223372036854775807) (b5 : -9223372036854775808 ≤ hs) (b6 : hs ≤ 9223372036854775807) (b7 : aB.length ≤ 9223372036854775807) (b8 : 1 ≤ z.length) (b9 : ∀ n, n ∈ z → cf n) (b10 : okB z) (b11 : z.length ≤ 9223372036854775807) (b12 : -9223372036854775808 ≤ n) (b13 : n ≤ 9223372036854775807) (b14 : s.length ≤ 9223372036854775807) (h0 : ¬ (40 < (m.length : Int))) (h1 : ¬ (20 < (z.length : Int))) (h2 : 200 < (aB.length : Int)) (w : World) (hl : aG w) (de : lk w 2 (z.flatMap aM) bF bG z.length bE) : au 3 #[.agg #[St' m, St' rt, .int .i64 q, .slice aE aC aD, St' rb], .agg #[.int .i64 hs, St' aB, .slice (some ⟨bF, bG, none⟩) z.length bE], .int .i64 n, .bool kp, St' s] w (.bool true) := by
 have hn0 := hN0
 have ho : ∀ k r, (k, r) ∈ hy6 → aS (cx (ay (nu6 m rt q aE aC aD rb hs aB bF bG bE z n kp s) (rX (ro6 m rt q aE aC aD rb hs aB bF bG bE z n kp s) (fun _ => .bool true))) (az (on6 m rt q aE aC aD rb hs aB bF bG bE z n kp s)) 3 aG aJ) k r := by
  unfold hy6
  exact hc (kB0 rfl) <|hc (eH (aF rfl)) <|hc bZ <|hc ey <|hc (cK bH (aA rfl) (aF rfl) (by first | omega | (simp <;> omega))) <|hc ey <|hc bZ <|hc fM <|hnil
 obtain ⟨fi, hfi, hb⟩ := lN
 exact po (tb := (aR hy6)) ((ab (ay (nu6 m rt q aE aC aD rb hs aB bF bG bE z n kp s) (rX (ro6 m rt q aE aC aD rb hs aB bF bG bE z n kp s) (fun _ => .bool true))) (az (on6 m rt q aE aC aD rb hs aB bF bG bE z n kp s))).hyps ho) rfl hfi hb [.r 2000000 37 2 true] [⟨bF, bG, z.length, bE⟩] run6 (args := [.agg #[St' m, St' rt, .int .i64 q, .slice aE aC aD, St' rb], .agg #[.int .i64 hs, St' aB, .slice (some ⟨bF, bG, none⟩) z.length bE], .int .i64 n, .bool kp, St' s]) ⟨_, _, rfl, ⟨_, rfl, ⟨_, _, rfl, rfl, ⟨_, _, rfl, rfl, ⟨_, _, rfl, rfl, ⟨_, _, rfl, rfl, ⟨_, _, rfl, rfl, rfl⟩⟩⟩⟩⟩⟩, ⟨_, _, rfl, ⟨_, rfl, ⟨_, _, rfl, rfl, ⟨_, _, rfl, rfl, ⟨_, _, rfl, qC (by decide) rfl de.room, rfl⟩⟩⟩⟩, ⟨_, _, rfl, rfl, ⟨_, _, rfl, rfl, ⟨_, _, rfl, rfl, rfl⟩⟩⟩⟩⟩ w hl rfl (by decide) (rk (de.arg (T.cy _) rfl) rj) rfl
def hy7 : LK := [(.bytes [], .x 10),
 (.rn, .x 2000001),
 (.len (.x 0), .x 11),
 (.bin .gtr (.x 11) (I6 40), .b false),
 (.rl (.x 2000000) 2, .x 12),
 (.bin .gtr (.x 12) (I6 20), .b false),
 (.len (.x 6), .x 13),
 (.bin .gtr (.x 13) (I6 200), .b false),
 (.len (.x 9), .x 14),
 (.bin .gtr (.x 14) (I6 2000), .b true)]
theorem run7 : Go.AX.okB (call (aR hy7) 9000 3 [.ag [.x 0, .x 1, .x 2, .x 3, .x 4], .ag [.x 5, .x 6, .sr 3], .x 7, .x 8, .x 9] ⟨iW 3 [.r 2000000 37 2 true] .leaf, 3 + List.length (α := aZ) [.r 2000000 37 2 true], 0, 0⟩) = true := by kernel_rfl
def nu7 (m : LB) (rt : LB) (q : Int) (aE : Option Addr) (aC : Nat) (aD : Nat) (rb : LB) (hs : Int) (aB : LB) (bF : Nat) (bG : Nat) (bE : Nat) (z : List (LB × LB)) (n : Int) (kp : Bool) (s : LB) : List Value := [St' m,
 St' rt,
 .int .i64 (q),
 .slice aE aC aD,
 St' rb,
 .int .i64 (hs),
 St' aB,
 .int .i64 (n),
 .bool kp,
 St' s,
 St' ([] : LB),
 .int .i64 ((m.length : Int)),
 .int .i64 ((z.length : Int)),
 .int .i64 ((aB.length : Int)),
 .int .i64 ((s.length : Int))]
def ro7 (m : LB) (rt : LB) (q : Int) (aE : Option Addr) (aC : Nat) (aD : Nat) (rb : LB) (hs : Int) (aB : LB) (bF : Nat) (bG : Nat) (bE : Nat) (z : List (LB × LB)) (n : Int) (kp : Bool) (s : LB) : List Value := [aN aM z,
 bJ ([] : List LB)]
theorem on7 (m : LB) (rt : LB) (q : Int) (aE : Option Addr) (aC : Nat) (aD : Nat) (rb : LB) (hs : Int) (aB : LB) (bF : Nat) (bG : Nat) (bE : Nat) (z : List (LB × LB)) (n : Int) (kp : Bool) (s : LB) : ∀ j, (aY (nu7 m rt q aE aC aD rb hs aB bF bG bE z n kp s) j).oneCell' = true := aT (l := nu7 m rt q aE aC aD rb hs aB bF bG bE z n kp s) rfl
theorem path7 (m : LB) (rt : LB) (q : Int) (aE : Option Addr) (aC : Nat) (aD : Nat) (rb : LB) (hs : Int) (aB : LB) (bF : Nat) (bG : Nat) (bE : Nat) (z : List (LB × LB)) (n : Int) (kp : Bool) (s : LB) (b0 : m.length ≤ 9223372036854775807) (b1 : rt.length ≤ 9223372036854775807) (b2 : -9223372036854775808 ≤ q) (b3 : q ≤ 9223372036854775807) (b4 : rb.length ≤ 9223372036854775807) (b5 : -9223372036854775808 ≤ hs) (b6 : hs ≤ 9223372036854775807) (b7 : aB.length ≤ 9223372036854775807) (b8 : 1 ≤ z.length) (b9 : ∀ n, n ∈ z → cf n) (b10 : okB z) (b11 : z.length ≤ 9223372036854775807) (b12 : -9223372036854775808 ≤ n) (b13 : n ≤ 9223372036854775807) (b14 : s.length ≤ 9223372036854775807) (h0 : ¬ (40 < (m.length : Int))) (h1 : ¬ (20 < (z.length : Int))) (h2 : ¬ (200 < (aB.length : Int))) (h3 : 2000 < (s.length : Int)) (w : World) (hl : aG w) (de : lk w 2 (z.flatMap aM) bF bG z.length bE) : au 3 #[.agg #[St' m, St' rt, .int .i64 q, .slice aE aC aD, St' rb], .agg #[.int .i64 hs, St' aB, .slice (some ⟨bF, bG, none⟩) z.length bE], .int .i64 n, .bool kp, St' s] w (.bool true) := by
 have hn0 := hN0
 have ho : ∀ k r, (k, r) ∈ hy7 → aS (cx (ay (nu7 m rt q aE aC aD rb hs aB bF bG bE z n kp s) (rX (ro7 m rt q aE aC aD rb hs aB bF bG bE z n kp s) (fun _ => .bool true))) (az (on7 m rt q aE aC aD rb hs aB bF bG bE z n kp s)) 3 aG aJ) k r := by
  unfold hy7
  exact hc (kB0 rfl) <|hc (eH (aF rfl)) <|hc bZ <|hc ey <|hc (cK bH (aA rfl) (aF rfl) (by first | omega | (simp <;> omega))) <|hc ey <|hc bZ <|hc ey <|hc bZ <|hc fM <|hnil
 obtain ⟨fi, hfi, hb⟩ := lN
 exact po (tb := (aR hy7)) ((ab (ay (nu7 m rt q aE aC aD rb hs aB bF bG bE z n kp s) (rX (ro7 m rt q aE aC aD rb hs aB bF bG bE z n kp s) (fun _ => .bool true))) (az (on7 m rt q aE aC aD rb hs aB bF bG bE z n kp s))).hyps ho) rfl hfi hb [.r 2000000 37 2 true] [⟨bF, bG, z.length, bE⟩] run7 (args := [.agg #[St' m, St' rt, .int .i64 q, .slice aE aC aD, St' rb], .agg #[.int .i64 hs, St' aB, .slice (some ⟨bF, bG, none⟩) z.length bE], .int .i64 n, .bool kp, St' s]) ⟨_, _, rfl, ⟨_, rfl, ⟨_, _, rfl, rfl, ⟨_, _, rfl, rfl, ⟨_, _, rfl, rfl, ⟨_, _, rfl, rfl, ⟨_, _, rfl, rfl, rfl⟩⟩⟩⟩⟩⟩, ⟨_, _, rfl, ⟨_, rfl, ⟨_, _, rfl, rfl, ⟨_, _, rfl, rfl, ⟨_, _, rfl, qC (by decide) rfl de.room, rfl⟩⟩⟩⟩, ⟨_, _, rfl, rfl, ⟨_, _, rfl, rfl, ⟨_, _, rfl, rfl, rfl⟩⟩⟩⟩⟩ w hl rfl (by decide) (rk (de.arg (T.cy _) rfl) rj) rfl
def hy8 : LK := [(.bytes [], .x 10),
 (.rn, .x 2000001),
 (.len (.x 0), .x 11),
 (.bin .gtr (.x 11) (I6 40), .b false),
 (.rl (.x 2000000) 2, .x 12),
 (.bin .gtr (.x 12) (I6 20), .b true)]
theorem run8 : Go.AX.okB (call (aR hy8) 9000 3 [.ag [.x 0, .x 1, .x 2, .x 3, .x 4], .ag [.x 5, .x 6, .sr 3], .x 7, .x 8, .x 9] ⟨iW 3 [.r 2000000 37 2 true] .leaf, 3 + List.length (α := aZ) [.r 2000000 37 2 true], 0, 0⟩) = true := by kernel_rfl
def nu8 (m : LB) (rt : LB) (q : Int) (aE : Option Addr) (aC : Nat) (aD : Nat) (rb : LB) (hs : Int) (aB : LB) (bF : Nat) (bG : Nat) (bE : Nat) (z : List (LB × LB)) (n : Int) (kp : Bool) (s : LB) : List Value := [St' m,
 St' rt,
 .int .i64 (q),
 .slice aE aC aD,
 St' rb,
 .int .i64 (hs),
 St' aB,
 .int .i64 (n),
 .bool kp,
 St' s,
 St' ([] : LB),
 .int .i64 ((m.length : Int)),
 .int .i64 ((z.length : Int))]
def ro8 (m : LB) (rt : LB) (q : Int) (aE : Option Addr) (aC : Nat) (aD : Nat) (rb : LB) (hs : Int) (aB : LB) (bF : Nat) (bG : Nat) (bE : Nat) (z : List (LB × LB)) (n : Int) (kp : Bool) (s : LB) : List Value := [aN aM z,
 bJ ([] : List LB)]
theorem on8 (m : LB) (rt : LB) (q : Int) (aE : Option Addr) (aC : Nat) (aD : Nat) (rb : LB) (hs : Int) (aB : LB) (bF : Nat) (bG : Nat) (bE : Nat) (z : List (LB × LB)) (n : Int) (kp : Bool) (s : LB) : ∀ j, (aY (nu8 m rt q aE aC aD rb hs aB bF bG bE z n kp s) j).oneCell' = true := aT (l := nu8 m rt q aE aC aD rb hs aB bF bG bE z n kp s) rfl
theorem path8 (m : LB) (rt : LB) (q : Int) (aE : Option Addr) (aC : Nat) (aD : Nat) (rb : LB) (hs : Int) (aB : LB) (bF : Nat) (bG : Nat) (bE : Nat) (z : List (LB × LB)) (n : Int) (kp : Bool) (s : LB) (b0 : m.length ≤ 9223372036854775807) (b1 : rt.length ≤ 9223372036854775807) (b2 : -9223372036854775808 ≤ q) (b3 : q ≤ 9223372036854775807) (b4 : rb.length ≤ 9223372036854775807) (b5 : -9223372036854775808 ≤ hs) (b6 : hs ≤ 9223372036854775807) (b7 : aB.length ≤ 9223372036854775807) (b8 : 1 ≤ z.length) (b9 : ∀ n, n ∈ z → cf n) (b10 : okB z) (b11 : z.length ≤ 9223372036854775807) (b12 : -9223372036854775808 ≤ n) (b13 : n ≤ 9223372036854775807) (b14 : s.length ≤ 9223372036854775807) (h0 : ¬ (40 < (m.length : Int))) (h1 : 20 < (z.length : Int)) (w : World) (hl : aG w) (de : lk w 2 (z.flatMap aM) bF bG z.length bE) : au 3 #[.agg #[St' m, St' rt, .int .i64 q, .slice aE aC aD, St' rb], .agg #[.int .i64 hs, St' aB, .slice (some ⟨bF, bG, none⟩) z.length bE], .int .i64 n, .bool kp, St' s] w (.bool true) := by
 have hn0 := hN0
 have ho : ∀ k r, (k, r) ∈ hy8 → aS (cx (ay (nu8 m rt q aE aC aD rb hs aB bF bG bE z n kp s) (rX (ro8 m rt q aE aC aD rb hs aB bF bG bE z n kp s) (fun _ => .bool true))) (az (on8 m rt q aE aC aD rb hs aB bF bG bE z n kp s)) 3 aG aJ) k r := by
  unfold hy8
  exact hc (kB0 rfl) <|hc (eH (aF rfl)) <|hc bZ <|hc ey <|hc (cK bH (aA rfl) (aF rfl) (by first | omega | (simp <;> omega))) <|hc fM <|hnil
 obtain ⟨fi, hfi, hb⟩ := lN
 exact po (tb := (aR hy8)) ((ab (ay (nu8 m rt q aE aC aD rb hs aB bF bG bE z n kp s) (rX (ro8 m rt q aE aC aD rb hs aB bF bG bE z n kp s) (fun _ => .bool true))) (az (on8 m rt q aE aC aD rb hs aB bF bG bE z n kp s))).hyps ho) rfl hfi hb [.r 2000000 37 2 true] [⟨bF, bG, z.length, bE⟩] run8 (args := [.agg #[St' m, St' rt, .int .i64 q, .slice aE aC aD, St' rb], .agg #[.int .i64 hs, St' aB, .slice (some ⟨bF, bG, none⟩) z.length bE], .int .i64 n, .bool kp, St' s]) ⟨_, _, rfl, ⟨_, rfl, ⟨_, _, rfl, rfl, ⟨_, _, rfl, rfl, ⟨_, _, rfl, rfl, ⟨_, _, rfl, rfl, ⟨_, _, rfl, rfl, rfl⟩⟩⟩⟩⟩⟩, ⟨_, _, rfl, ⟨_, rfl, ⟨_, _, rfl, rfl, ⟨_, _, rfl, rfl, ⟨_, _, rfl, qC (by decide) rfl de.room, rfl⟩⟩⟩⟩, ⟨_, _, rfl, rfl, ⟨_, _, rfl, rfl, ⟨_, _, rfl, rfl, rfl⟩⟩⟩⟩⟩ w hl rfl (by decide) (rk (de.arg (T.cy _) rfl) rj) rfl
end Go.Proofs.YtngkglegomkjkaaDoor.replyTells
