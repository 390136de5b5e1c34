/- A part of the proof: what an interpreter answers on partly known states is what the program answers. No condition. -/
import Derived.Test.YtngkglegomkjkaaDoorV1ReplyTellsO10
set_option maxRecDepth 100000
set_option linter.unusedVariables false
set_option linter.unusedSimpArgs false
set_option maxHeartbeats 4000000
namespace Go.Proofs.YtngkglegomkjkaaDoor.replyTells
open Go Go.AX Go.Proofs Go.Proofs.YtngkglegomkjkaaDoor
def hy0 : LK := [(.bytes [], .x 10),
 (.rn, .x 2000000),
 (.len (.x 0), .x 11),
 (.bin .gtr (.x 11) (I6 40), .b false),
 (.len (.x 6), .x 12),
 (.bin .gtr (.x 12) (I6 200), .b false),
 (.len (.x 9), .x 13),
 (.bin .gtr (.x 13) (I6 2000), .b false),
 (.call 5 [.x 7], .x 14),
 (.call 6 [.x 7], .x 15),
 (.bin .eql (.x 14) (.x 15), .b true),
 (.call 7 [.x 0, .x 7], .x 16),
 (.call 8 [.x 0, .x 7], .x 17),
 (.bI (.x 16) (.x 17), .b true),
 (.call 9 [.ag [.x 0, .x 1, .x 2, .x 3, .x 4], .x 7, .x 8], .x 18),
 (.call 10 [.ag [.x 0, .x 1, .x 2, .x 3, .x 4], .x 7, .x 8], .x 19),
 (.bin .eql (.x 18) (.x 19), .b true),
 (.call 11 [.ag [.x 0, .x 1, .x 2, .x 3, .x 4], .ag [.x 5, .x 6, .es], .x 8], .x 20),
 (.call 12 [.ag [.x 0, .x 1, .x 2, .x 3, .x 4], .ag [.x 5, .x 6, .es], .x 8], .x 21),
 (.bin .eql (.x 20) (.x 21), .b true),
 (.call 13 [.ag [.x 0, .x 1, .x 2, .x 3, .x 4], .ag [.x 5, .x 6, .es], .x 9], .x 22),
 (.call 14 [.ag [.x 0, .x 1, .x 2, .x 3, .x 4], .ag [.x 5, .x 6, .es], .x 9], .x 23),
 (.bin .eql (.x 22) (.x 23), .b true),
 (.call 15 [.ag [.x 0, .x 1, .x 2, .x 3, .x 4], .ag [.x 5, .x 6, .es]], .x 24),
 (.call 16 [.ag [.x 0, .x 1, .x 2, .x 3, .x 4], .ag [.x 5, .x 6, .es]], .x 25),
 (.bin .eql (.x 24) (.x 25), .b true),
 (.call 17 [.ag [.x 0, .x 1, .x 2, .x 3, .x 4], .ag [.x 5, .x 6, .es]], .x 26),
 (.call 18 [.ag [.x 0, .x 1, .x 2, .x 3, .x 4], .ag [.x 5, .x 6, .es]], .x 27),
 (.bI (.x 26) (.x 27), .b true)]
theorem run0 (e0 : Nat) (e1 : Nat) (e2 : Nat) : Go.AX.okB (call (aR hy0) 9000 3 [.ag [.x 0, .x 1, .x 2, .x 3, .x 4], .ag [.x 5, .x 6, .es], .x 7, .x 8, .x 9] ⟨H0 e0 e1 e2 , 3, 0, 0⟩) = true := by kernel_rfl
def nu0 (m : LB) (rt : LB) (q : Int) (aE : Option Addr) (aC : Nat) (aD : Nat) (rb : LB) (hs : Int) (aB : LB) (bT : Option Addr) (bS : Nat) (n : Int) (kp : Bool) (s : LB) : List Value := [St' m,
 St' rt,
 .int .i64 (q),
 .slice aE aC aD,
 St' rb,
 .int .i64 (hs),
 St' aB,
 .int .i64 (n),
 .bool kp,
 St' s,
 St' ([] : LB),
 .int .i64 ((m.length : Int)),
 .int .i64 ((aB.length : Int)),
 .int .i64 ((s.length : Int)),
 St' (aV n),
 St' (aV n),
 .bool (ax m n),
 .bool (ax m n),
 St' (dF m n kp),
 St' (dF m n kp),
 St' (cD m q hs aB kp []),
 St' (cD m q hs aB kp []),
 St' (dk q m hs s),
 St' (dk q m hs s),
 St' (fA q m hs),
 St' (fA q m hs),
 .bool (bL q m hs),
 .bool (bL q m hs)]
def ro0 (m : LB) (rt : LB) (q : Int) (aE : Option Addr) (aC : Nat) (aD : Nat) (rb : LB) (hs : Int) (aB : LB) (bT : Option Addr) (bS : Nat) (n : Int) (kp : Bool) (s : LB) : List Value := [bJ ([] : List LB)]
theorem on0 (m : LB) (rt : LB) (q : Int) (aE : Option Addr) (aC : Nat) (aD : Nat) (rb : LB) (hs : Int) (aB : LB) (bT : Option Addr) (bS : Nat) (n : Int) (kp : Bool) (s : LB) : ∀ j, (aY (nu0 m rt q aE aC aD rb hs aB bT bS n kp s) j).oneCell' = true := aT (l := nu0 m rt q aE aC aD rb hs aB bT bS n kp s) rfl
theorem path0 (m : LB) (rt : LB) (q : Int) (aE : Option Addr) (aC : Nat) (aD : Nat) (rb : LB) (hs : Int) (aB : LB) (bT : Option Addr) (bS : Nat) (n : Int) (kp : Bool) (s : LB) (b0 : m.length ≤ 9223372036854775807) (b1 : rt.length ≤ 9223372036854775807) (b2 : -9223372036854775808 ≤ q) (b3 : q ≤ 9223372036854775807) (b4 : rb.length ≤ 9223372036854775807) (b5 : -9223372036854775808 ≤ hs) (b6 : hs ≤ 9223372036854775807) (b7 : aB.length ≤ 9223372036854775807) (b8 : -9223372036854775808 ≤ n) (b9 : n ≤ 9223372036854775807) (b10 : s.length ≤ 9223372036854775807) (h0 : ¬ (40 < (m.length : Int))) (h1 : ¬ (200 < (aB.length : Int))) (h2 : ¬ (2000 < (s.length : Int))) (w : World) (hl : aG w) : au 3 #[.agg #[St' m, St' rt, .int .i64 q, .slice aE aC aD, St' rb], .agg #[.int .i64 hs, St' aB, .slice bT 0 bS], .int .i64 n, .bool kp, St' s] w (.bool true) := by
 have hn0 := hN0
 have := ic n
 have ho : ∀ k r, (k, r) ∈ hy0 → aS (cx (ay (nu0 m rt q aE aC aD rb hs aB bT bS n kp s) (rX (ro0 m rt q aE aC aD rb hs aB bT bS n kp s) (fun _ => .bool true))) (az (on0 m rt q aE aC aD rb hs aB bT bS n kp s)) 3 aG aJ) k r := by
  unfold hy0
  exact hc (kB0 rfl) <|hc (eH (aF rfl)) <|hc bZ <|hc ey <|hc bZ <|hc ey <|hc bZ <|hc ey <|hc (og (aA rfl) (aF rfl)) <|hc (oh (aA rfl) (aF rfl)) <|hc (br (aA rfl) (aA rfl) (decide_eq_true rfl)) <|hc (gp (aA rfl) (aA rfl) (aF rfl)) <|hc (gn (aA rfl) (aA rfl) (aF rfl)) <|hc (xN (aA rfl) (aA rfl)) <|hc (hokPln (bY (aA rfl) (aA rfl) (aA rfl) (aA rfl) (aA rfl)) (aA rfl) (aA rfl) (aF rfl)) <|hc (hokRpl (bY (aA rfl) (aA rfl) (aA rfl) (aA rfl) (aA rfl)) (aA rfl) (aA rfl) (aF rfl)) <|hc (br (aA rfl) (aA rfl) (decide_eq_true rfl)) <|hc (hokHdEM (bY (aA rfl) (aA rfl) (aA rfl) (aA rfl) (aA rfl)) (aA rfl) (aA rfl) (aA rfl) (aF rfl)) <|hc (hokRhEM (bY (aA rfl) (aA rfl) (aA rfl) (aA rfl) (aA rfl)) (aA rfl) (aA rfl) (aA rfl) (aF rfl)) <|hc (br (aA rfl) (aA rfl) (decide_eq_true rfl)) <|hc (aY5 (bY (aA rfl) (aA rfl) (aA rfl) (aA rfl) (aA rfl)) (aA rfl) (aA rfl) fT (aA rfl) (aF rfl)) <|hc (aY3 (bY (aA rfl) (aA rfl) (aA rfl) (aA rfl) (aA rfl)) (aA rfl) (aA rfl) fT (aA rfl) (aF rfl)) <|hc (br (aA rfl) (aA rfl) (decide_eq_true rfl)) <|hc (aY6 (bY (aA rfl) (aA rfl) (aA rfl) (aA rfl) (aA rfl)) (aA rfl) (aA rfl) fT (aF rfl)) <|hc (aY4 (bY (aA rfl) (aA rfl) (aA rfl) (aA rfl) (aA rfl)) (aA rfl) (aA rfl) fT (aF rfl)) <|hc (br (aA rfl) (aA rfl) (decide_eq_true rfl)) <|hc (eJ (bY (aA rfl) (aA rfl) (aA rfl) (aA rfl) (aA rfl)) (aA rfl) (aA rfl) fT (aF rfl)) <|hc (eI (bY (aA rfl) (aA rfl) (aA rfl) (aA rfl) (aA rfl)) (aA rfl) (aA rfl) fT (aF rfl)) <|hc (xN (aA rfl) (aA rfl)) <|hnil
 obtain ⟨fi, hfi, hb⟩ := lN
 exact pq (tb := (aR hy0)) ((ab (ay (nu0 m rt q aE aC aD rb hs aB bT bS n kp s) (rX (ro0 m rt q aE aC aD rb hs aB bT bS n kp s) (fun _ => .bool true))) (az (on0 m rt q aE aC aD rb hs aB bT bS n kp s))).hyps ho) rfl hfi hb (fun e0 e1 e2 => run0 e0 e1 e2 ) (args := [.agg #[St' m, St' rt, .int .i64 q, .slice aE aC aD, St' rb], .agg #[.int .i64 hs, St' aB, .slice bT 0 bS], .int .i64 n, .bool kp, St' s]) (by simp only [aH, Rel]; exact ⟨_, _, rfl, ⟨_, rfl, ⟨_, _, rfl, rfl, ⟨_, _, rfl, rfl, ⟨_, _, rfl, rfl, ⟨_, _, rfl, rfl, ⟨_, _, rfl, rfl, rfl⟩⟩⟩⟩⟩⟩, ⟨_, _, rfl, ⟨_, rfl, ⟨_, _, rfl, rfl, ⟨_, _, rfl, rfl, ⟨_, _, rfl, ⟨_, _, rfl⟩, rfl⟩⟩⟩⟩, ⟨_, _, rfl, rfl, ⟨_, _, rfl, rfl, ⟨_, _, rfl, rfl, rfl⟩⟩⟩⟩⟩) w hl
def hy1 : LK := [(.bytes [], .x 10),
 (.rn, .x 2000000),
 (.len (.x 0), .x 11),
 (.bin .gtr (.x 11) (I6 40), .b true)]
theorem run1 (e0 : Nat) (e1 : Nat) (e2 : Nat) : Go.AX.okB (call (aR hy1) 9000 3 [.ag [.x 0, .x 1, .x 2, .x 3, .x 4], .ag [.x 5, .x 6, .es], .x 7, .x 8, .x 9] ⟨H0 e0 e1 e2 , 3, 0, 0⟩) = true := by kernel_rfl
def nu1 (m : LB) (rt : LB) (q : Int) (aE : Option Addr) (aC : Nat) (aD : Nat) (rb : LB) (hs : Int) (aB : LB) (bT : Option Addr) (bS : Nat) (n : Int) (kp : Bool) (s : LB) : List Value := [St' m,
 St' rt,
 .int .i64 (q),
 .slice aE aC aD,
 St' rb,
 .int .i64 (hs),
 St' aB,
 .int .i64 (n),
 .bool kp,
 St' s,
 St' ([] : LB),
 .int .i64 ((m.length : Int))]
def ro1 (m : LB) (rt : LB) (q : Int) (aE : Option Addr) (aC : Nat) (aD : Nat) (rb : LB) (hs : Int) (aB : LB) (bT : Option Addr) (bS : Nat) (n : Int) (kp : Bool) (s : LB) : List Value := [bJ ([] : List LB)]
theorem on1 (m : LB) (rt : LB) (q : Int) (aE : Option Addr) (aC : Nat) (aD : Nat) (rb : LB) (hs : Int) (aB : LB) (bT : Option Addr) (bS : Nat) (n : Int) (kp : Bool) (s : LB) : ∀ j, (aY (nu1 m rt q aE aC aD rb hs aB bT bS n kp s) j).oneCell' = true := aT (l := nu1 m rt q aE aC aD rb hs aB bT bS n kp s) rfl
theorem path1 (m : LB) (rt : LB) (q : Int) (aE : Option Addr) (aC : Nat) (aD : Nat) (rb : LB) (hs : Int) (aB : LB) (bT : Option Addr) (bS : Nat) (n : Int) (kp : Bool) (s : LB) (b0 : m.length ≤ 9223372036854775807) (b1 : rt.length ≤ 9223372036854775807) (b2 : -9223372036854775808 ≤ q) (b3 : q ≤ 9223372036854775807) (b4 : rb.length ≤ 9223372036854775807) (b5 : -9223372036854775808 ≤ hs) (b6 : hs ≤ 9223372036854775807) (b7 : aB.length ≤ 9223372036854775807) (b8 : -9223372036854775808 ≤ n) (b9 : n ≤ 9223372036854775807) (b10 : s.length ≤ 9223372036854775807) (h0 : 40 < (m.length : Int)) (w : World) (hl : aG w) : au 3 #[.agg #[St' m, St' rt, .int .i64 q, .slice aE aC aD, St' rb], .agg #[.int .i64 hs, St' aB, .slice bT 0 bS], .int .i64 n, .bool kp, St' s] w (.bool true) := by
 have hn0 := hN0
 have ho : ∀ k r, (k, r) ∈ hy1 → aS (cx (ay (nu1 m rt q aE aC aD rb hs aB bT bS n kp s) (rX (ro1 m rt q aE aC aD rb hs aB bT bS n kp s) (fun _ => .bool true))) (az (on1 m rt q aE aC aD rb hs aB bT bS n kp s)) 3 aG aJ) k r := by
  unfold hy1
  exact hc (kB0 rfl) <|hc (eH (aF rfl)) <|hc bZ <|hc fM <|hnil
 obtain ⟨fi, hfi, hb⟩ := lN
 exact pq (tb := (aR hy1)) ((ab (ay (nu1 m rt q aE aC aD rb hs aB bT bS n kp s) (rX (ro1 m rt q aE aC aD rb hs aB bT bS n kp s) (fun _ => .bool true))) (az (on1 m rt q aE aC aD rb hs aB bT bS n kp s))).hyps ho) rfl hfi hb (fun e0 e1 e2 => run1 e0 e1 e2 ) (args := [.agg #[St' m, St' rt, .int .i64 q, .slice aE aC aD, St' rb], .agg #[.int .i64 hs, St' aB, .slice bT 0 bS], .int .i64 n, .bool kp, St' s]) (by simp only [aH, Rel]; exact ⟨_, _, rfl, ⟨_, rfl, ⟨_, _, rfl, rfl, ⟨_, _, rfl, rfl, ⟨_, _, rfl, rfl, ⟨_, _, rfl, rfl, ⟨_, _, rfl, rfl, rfl⟩⟩⟩⟩⟩⟩, ⟨_, _, rfl, ⟨_, rfl, ⟨_, _, rfl, rfl, ⟨_, _, rfl, rfl, ⟨_, _, rfl, ⟨_, _, rfl⟩, rfl⟩⟩⟩⟩, ⟨_, _, rfl, rfl, ⟨_, _, rfl, rfl, ⟨_, _, rfl, rfl, rfl⟩⟩⟩⟩⟩) w hl
def hy2 : LK := [(.bytes [], .x 10),
 (.rn, .x 2000000),
 (.len (.x 0), .x 11),
 (.bin .gtr (.x 11) (I6 40), .b false),
 (.len (.x 6), .x 12),
 (.bin .gtr (.x 12) (I6 200), .b true)]
theorem run2 (e0 : Nat) (e1 : Nat) (e2 : Nat) : Go.AX.okB (call (aR hy2) 9000 3 [.ag [.x 0, .x 1, .x 2, .x 3, .x 4], .ag [.x 5, .x 6, .es], .x 7, .x 8, .x 9] ⟨H0 e0 e1 e2 , 3, 0, 0⟩) = true := by kernel_rfl
def nu2 (m : LB) (rt : LB) (q : Int) (aE : Option Addr) (aC : Nat) (aD : Nat) (rb : LB) (hs : Int) (aB : LB) (bT : Option Addr) (bS : Nat) (n : Int) (kp : Bool) (s : LB) : List Value := [St' m,
 St' rt,
 .int .i64 (q),
 .slice aE aC aD,
 St' rb,
 .int .i64 (hs),
 St' aB,
 .int .i64 (n),
 .bool kp,
 St' s,
 St' ([] : LB),
 .int .i64 ((m.length : Int)),
 .int .i64 ((aB.length : Int))]
def ro2 (m : LB) (rt : LB) (q : Int) (aE : Option Addr) (aC : Nat) (aD : Nat) (rb : LB) (hs : Int) (aB : LB) (bT : Option Addr) (bS : Nat) (n : Int) (kp : Bool) (s : LB) : List Value := [bJ ([] : List LB)]
theorem on2 (m : LB) (rt : LB) (q : Int) (aE : Option Addr) (aC : Nat) (aD : Nat) (rb : LB) (hs : Int) (aB : LB) (bT : Option Addr) (bS : Nat) (n : Int) (kp : Bool) (s : LB) : ∀ j, (aY (nu2 m rt q aE aC aD rb hs aB bT bS n kp s) j).oneCell' = true := aT (l := nu2 m rt q aE aC aD rb hs aB bT bS n kp s) rfl
theorem path2 (m : LB) (rt : LB) (q : Int) (aE : Option Addr) (aC : Nat) (aD : Nat) (rb : LB) (hs : Int) (aB : LB) (bT : Option Addr) (bS : Nat) (n : Int) (kp : Bool) (s : LB) (b0 : m.length ≤ 9223372036854775807) (b1 : rt.length ≤ 9223372036854775807) (b2 : -9223372036854775808 ≤ q) (b3 : q ≤ 9223372036854775807) (b4 : rb.length ≤ 9223372036854775807) (b5 : -9223372036854775808 ≤ hs) (b6 : hs ≤ 9223372036854775807) (b7 : aB.length ≤ 9223372036854775807) (b8 : -9223372036854775808 ≤ n) (b9 : n ≤ 9223372036854775807) (b10 : s.length ≤ 9223372036854775807) (h0 : ¬ (40 < (m.length : Int))) (h1 : 200 < (aB.length : Int)) (w : World) (hl : aG w) : au 3 #[.agg #[St' m, St' rt, .int .i64 q, .slice aE aC aD, St' rb], .agg #[.int .i64 hs, St' aB, .slice bT 0 bS], .int .i64 n, .bool kp, St' s] w (.bool true) := by
 have hn0 := hN0
 have ho : ∀ k r, (k, r) ∈ hy2 → aS (cx (ay (nu2 m rt q aE aC aD rb hs aB bT bS n kp s) (rX (ro2 m rt q aE aC aD rb hs aB bT bS n kp s) (fun _ => .bool true))) (az (on2 m rt q aE aC aD rb hs aB bT bS n kp s)) 3 aG aJ) k r := by
  unfold hy2
  exact hc (kB0 rfl) <|hc (eH (aF rfl)) <|hc bZ <|hc ey <|hc bZ <|hc fM <|hnil
 obtain ⟨fi, hfi, hb⟩ := lN
 exact pq (tb := (aR hy2)) ((ab (ay (nu2 m rt q aE aC aD rb hs aB bT bS n kp s) (rX (ro2 m rt q aE aC aD rb hs aB bT bS n kp s) (fun _ => .bool true))) (az (on2 m rt q aE aC aD rb hs aB bT bS n kp s))).hyps ho) rfl hfi hb (fun e0 e1 e2 => run2 e0 e1 e2 ) (args := [.agg #[St' m, St' rt, .int .i64 q, .slice aE aC aD, St' rb], .agg #[.int .i64 hs, St' aB, .slice bT 0 bS], .int .i64 n, .bool kp, St' s]) (by simp only [aH, Rel]; exact ⟨_, _, rfl, ⟨_, rfl, ⟨_, _, rfl, rfl, ⟨_, _, rfl, rfl, ⟨_, _, rfl, rfl, ⟨_, _, rfl, rfl, ⟨_, _, rfl, rfl, rfl⟩⟩⟩⟩⟩⟩, ⟨_, _, rfl, ⟨_, rfl, ⟨_, _, rfl, rfl, ⟨_, _, rfl, rfl, ⟨_, _, rfl, ⟨_, _, rfl⟩, rfl⟩⟩⟩⟩, ⟨_, _, rfl, rfl, ⟨_, _, rfl, rfl, ⟨_, _, rfl, rfl, rfl⟩⟩⟩⟩⟩) w hl
def hy3 : LK := [(.bytes [], .x 10),
 (.rn, .x 2000000),
 (.len (.x 0), .x 11),
 (.bin .gtr (.x 11) (I6 40), .b false),
 (.len (.x 6), .x 12),
 (.bin .gtr (.x 12) (I6 200), .b false),
 (.len (.x 9), .x 13),
 (.bin .gtr (.x 13) (I6 2000), .b true)]
theorem run3 (e0 : Nat) (e1 : Nat) (e2 : Nat) : Go.AX.okB (call (aR hy3) 9000 3 [.ag [.x 0, .x 1, .x 2, .x 3, .x 4], .ag [.x 5, .x 6, .es], .x 7, .x 8, .x 9] ⟨H0 e0 e1 e2 , 3, 0, 0⟩) = true := by kernel_rfl
def nu3 (m : LB) (rt : LB) (q : Int) (aE : Option Addr) (aC : Nat) (aD : Nat) (rb : LB) (hs : Int) (aB : LB) (bT : Option Addr) (bS : Nat) (n : Int) (kp : Bool) (s : LB) : List Value := [St' m,
 St' rt,
 .int .i64 (q),
 .slice aE aC aD,
 St' rb,
 .int .i64 (hs),
 St' aB,
 .int .i64 (n),
 .bool kp,
 St' s,
 St' ([] : LB),
 .int .i64 ((m.length : Int)),
 .int .i64 ((aB.length : Int)),
 .int .i64 ((s.length : Int))]
def ro3 (m : LB) (rt : LB) (q : Int) (aE : Option Addr) (aC : Nat) (aD : Nat) (rb : LB) (hs : Int) (aB : LB) (bT : Option Addr) (bS : Nat) (n : Int) (kp : Bool) (s : LB) : List Value := [bJ ([] : List LB)]
theorem on3 (m : LB) (rt : LB) (q : Int) (aE : Option Addr) (aC : Nat) (aD : Nat) (rb : LB) (hs : Int) (aB : LB) (bT : Option Addr) (bS : Nat) (n : Int) (kp : Bool) (s : LB) : ∀ j, (aY (nu3 m rt q aE aC aD rb hs aB bT bS n kp s) j).oneCell' = true := aT (l := nu3 m rt q aE aC aD rb hs aB bT bS n kp s) rfl
theorem path3 (m : LB) (rt : LB) (q : Int) (aE : Option Addr) (aC : Nat) (aD : Nat) (rb : LB) (hs : Int) (aB : LB) (bT : Option Addr) (bS : Nat) (n : Int) (kp : Bool) (s : LB) (b0 : m.length ≤ 9223372036854775807) (b1 : rt.length ≤ 9223372036854775807) (b2 : -9223372036854775808 ≤ q) (b3 : q ≤ 9223372036854775807) (b4 : rb.length ≤ 9223372036854775807) (b5 : -9223372036854775808 ≤ hs) (b6 : hs ≤ 9223372036854775807) (b7 : aB.length ≤ 9223372036854775807) (b8 : -9223372036854775808 ≤ n) (b9 : n ≤ 9223372036854775807) (b10 : s.length ≤ 9223372036854775807) (h0 : ¬ (40 < (m.length : Int))) (h1 : ¬ (200 < (aB.length : Int))) (h2 : 2000 < (s.length : Int)) (w : World) (hl : aG w) : au 3 #[.agg #[St' m, St' rt, .int .i64 q, .slice aE aC aD, St' rb], .agg #[.int .i64 hs, St' aB, .slice bT 0 bS], .int .i64 n, .bool kp, St' s] w (.bool true) := by
 have hn0 := hN0
 have ho : ∀ k r, (k, r) ∈ hy3 → aS (cx (ay (nu3 m rt q aE aC aD rb hs aB bT bS n kp s) (rX (ro3 m rt q aE aC aD rb hs aB bT bS n kp s) (fun _ => .bool true))) (az (on3 m rt q aE aC aD rb hs aB bT bS n kp s)) 3 aG aJ) k r := by
  unfold hy3
  exact hc (kB0 rfl) <|hc (eH (aF rfl)) <|hc bZ <|hc ey <|hc bZ <|hc ey <|hc bZ <|hc fM <|hnil
 obtain ⟨fi, hfi, hb⟩ := lN
 exact pq (tb := (aR hy3)) ((ab (ay (nu3 m rt q aE aC aD rb hs aB bT bS n kp s) (rX (ro3 m rt q aE aC aD rb hs aB bT bS n kp s) (fun _ => .bool true))) (az (on3 m rt q aE aC aD rb hs aB bT bS n kp s))).hyps ho) rfl hfi hb (fun e0 e1 e2 => run3 e0 e1 e2 ) (args := [.agg #[St' m, St' rt, .int .i64 q, .slice aE aC aD, St' rb], .agg #[.int .i64 hs, St' aB, .slice bT 0 bS], .int .i64 n, .bool kp, St' s]) (by simp only [aH, Rel]; exact ⟨_, _, rfl, ⟨_, rfl, ⟨_, _, rfl, rfl, ⟨_, _, rfl, rfl, ⟨_, _, rfl, rfl, ⟨_, _, rfl, rfl, ⟨_, _, rfl, rfl, rfl⟩⟩⟩⟩⟩⟩, ⟨_, _, rfl, ⟨_, rfl, ⟨_, _, rfl, rfl, ⟨_, _, rfl, rfl, ⟨_, _, rfl, ⟨_, _, rfl⟩, rfl⟩⟩⟩⟩, ⟨_, _, rfl, rfl, ⟨_, _, rfl, rfl, ⟨_, _, rfl, rfl, rfl⟩⟩⟩⟩⟩) w hl
def hy4 : LK := [(.bytes [], .x 10),
 (.rn, .x 2000001),
 (.len (.x 0), .x 11),
 (.bin .gtr (.x 11) (I6 40), .b false),
 (.rl (.x 2000000) 2, .x 12),
 (.bin .gtr (.x 12) (I6 20), .b false),
 (.len (.x 6), .x 13),
 (.bin .gtr (.x 13) (I6 200), .b false),
 (.len (.x 9), .x 14),
 (.bin .gtr (.x 14) (I6 2000), .b false),
 (.call 5 [.x 7], .x 15),
 (.call 6 [.x 7], .x 16),
 (.bin .eql (.x 15) (.x 16), .b true),
 (.call 7 [.x 0, .x 7], .x 17),
 (.call 8 [.x 0, .x 7], .x 18),
 (.bI (.x 17) (.x 18), .b true),
 (.call 9 [.ag [.x 0, .x 1, .x 2, .x 3, .x 4], .x 7, .x 8], .x 19),
 (.call 10 [.ag [.x 0, .x 1, .x 2, .x 3, .x 4], .x 7, .x 8], .x 20),
 (.bin .eql (.x 19) (.x 20), .b true),
 (.bin .eql (.x 21) (.x 22), .b true),
 (.call 13 [.ag [.x 0, .x 1, .x 2, .x 3, .x 4], .ag [.x 5, .x 6, .sr 3], .x 9], .x 23),
 (.call 14 [.ag [.x 0, .x 1, .x 2, .x 3, .x 4], .ag [.x 5, .x 6, .sr 3], .x 9], .x 24),
 (.bin .eql (.x 23) (.x 24), .b true),
 (.call 15 [.ag [.x 0, .x 1, .x 2, .x 3, .x 4], .ag [.x 5, .x 6, .sr 3]], .x 25),
 (.call 16 [.ag [.x 0, .x 1, .x 2, .x 3, .x 4], .ag [.x 5, .x 6, .sr 3]], .x 26),
 (.bin .eql (.x 25) (.x 26), .b true),
 (.call 17 [.ag [.x 0, .x 1, .x 2, .x 3, .x 4], .ag [.x 5, .x 6, .sr 3]], .x 27),
 (.call 18 [.ag [.x 0, .x 1, .x 2, .x 3, .x 4], .ag [.x 5, .x 6, .sr 3]], .x 28),
 (.bI (.x 27) (.x 28), .b true)]
def lh55 : LH := ⟨3, 20, 320, [(3, .r 2000000 37 2 true)], [(3, .r 2000002 37 2 true)]⟩
def lf55 : LF := ⟨8888888, 0, [(0, .ag [.x 0, .x 1, .x 2, .x 3, .x 4]), (1, .ag [.x 5, .x 6, .sr 3]), (2, .x 8)], [], .normal, [(0, .x 21)], some lh55⟩
def lh56 : LH := ⟨3, 400, 700, [(3, .r 2000002 37 2 true)], [(3, .r 2000003 37 2 true)]⟩
def lf56 : LF := ⟨8888888, 0, [(0, .ag [.x 0, .x 1, .x 2, .x 3, .x 4]), (1, .ag [.x 5, .x 6, .sr 3]), (2, .x 8)], [], .normal, [(0, .x 22)], some lh56⟩
noncomputable def tab4 : Tab := bf (bf ({ bc with hyp := hy4 }) 11 AH [lf55]) 12 gz [lf56]
theorem run4 : Go.AX.okB (call tab4 9000 3 [.ag [.x 0, .x 1, .x 2, .x 3, .x 4], .ag [.x 5, .x 6, .sr 3], .x 7, .x 8, .x 9] ⟨iW 3 [.r 2000000 37 2 true] .leaf, 3 + List.length (α := aZ) [.r 2000000 37 2 true], 0, 0⟩) = true := by kernel_rfl
def nu4 (m : LB) (rt : LB) (q : Int) (aE : Option Addr) (aC : Nat) (aD : Nat) (rb : LB) (hs : Int) (aB : LB) (bF : Nat) (bG : Nat) (bE : Nat) (z : List (LB × LB)) (n : Int) (kp : Bool) (s : LB) : List Value := [St' m,
 St' rt,
 .int .i64 (q),
 .slice aE aC aD,
 St' rb,
 .int .i64 (hs),
 St' aB,
 .int .i64 (n),
 .bool kp,
 St' s,
 St' ([] : LB),
 .int .i64 ((m.length : Int)),
 .int .i64 ((z.length : Int)),
 .int .i64 ((aB.length : Int)),
 .int .i64 ((s.length : Int)),
 St' (aV n),
 St' (aV n),
 .bool (ax m n),
 .bool (ax m n),
 St' (dF m n kp),
 St' (dF m n kp),
 St' (cD m q hs aB kp z),
 St' (cD m q hs aB kp z),
 St' (dk q m hs s),
 St' (dk q m hs s),
 St' (fA q m hs),
 St' (fA q m hs),
 .bool (bL q m hs),
 .bool (bL q m hs)]
def ro4 (m : LB) (rt : LB) (q : Int) (aE : Option Addr) (aC : Nat) (aD : Nat) (rb : LB) (hs : Int) (aB : LB) (bF : Nat) (bG : Nat) (bE : Nat) (z : List (LB × LB)) (n : Int) (kp : Bool) (s : LB) : List Value := [aN aM z,
 bJ ([] : List LB),
 aN aM z,
 aN aM z]
theorem on4 (m : LB) (rt : LB) (q : Int) (aE : Option Addr) (aC : Nat) (aD : Nat) (rb : LB) (hs : Int) (aB : LB) (bF : Nat) (bG : Nat) (bE : Nat) (z : List (LB × LB)) (n : Int) (kp : Bool) (s : LB) : ∀ j, (aY (nu4 m rt q aE aC aD rb hs aB bF bG bE z n kp s) j).oneCell' = true := aT (l := nu4 m rt q aE aC aD rb hs aB bF bG bE z n kp s) rfl
theorem path4 (m : LB) (rt : LB) (q : Int) (aE : Option Addr) (aC : Nat) (aD : Nat) (rb : LB) (hs : Int) (aB : LB) (bF : Nat) (bG : Nat) (bE : Nat) (z : List (LB × LB)) (n : Int) (kp : Bool) (s : LB) (b0 : m.length ≤ 9223372036854775807) (b1 : rt.length ≤ 9223372036854775807) (b2 : -9223372036854775808 ≤ q) (b3 : q ≤ 9223372036854775807) (b4 : rb.length ≤ 9223372036854775807) (b5 : -9223372036854775808 ≤ hs) (b6 : hs ≤ 9223372036854775807) (b7 : aB.length ≤ 9223372036854775807) (b8 : 1 ≤ z.length) (b9 : ∀ n, n ∈ z → cf n) (b10 : okB z) (b11 : z.length ≤ 9223372036854775807) (b12 : -9223372036854775808 ≤ n) (b13 : n ≤ 9223372036854775807) (b14 : s.length ≤ 9223372036854775807) (h0 : ¬ (40 < (m.length : Int))) (h1 : ¬ (20 < (z.length : Int))) (h2 : ¬ (200 < (aB.length : Int))) (h3 : ¬ (2000 < (s.length : Int))) (w : World) (hl : aG w) (de : lk w 2 (z.flatMap aM) bF bG z.length bE) : au 3 #[.agg #[St' m, St' rt, .int .i64 q, .slice aE aC aD, St' rb], .agg #[.int .i64 hs, St' aB, .slice (some ⟨bF, bG, none⟩) z.length bE], .int .i64 n, .bool kp, St' s] w (.bool true) := by
 have hn0 := hN0
 have := ic n
 have ho : ∀ k r, (k, r) ∈ hy4 → aS (cx (ay (nu4 m rt q aE aC aD rb hs aB bF bG bE z n kp s) (rX (ro4 m rt q aE aC aD rb hs aB bF bG bE z n kp s) (fun _ => .bool true))) (az (on4 m rt q aE aC aD rb hs aB bF bG bE z n kp s)) 3 aG aJ) k r := by
  unfold hy4
  exact hc (kB0 rfl) <|hc (eH (aF rfl)) <|hc bZ <|hc ey <|hc (cK bH (aA rfl) (aF rfl) (by first | omega | (simp <;> omega))) <|hc ey <|hc bZ <|hc ey <|hc bZ <|hc ey <|hc (og (aA rfl) (aF rfl)) <|hc (oh (aA rfl) (aF rfl)) <|hc (br (aA rfl) (aA rfl) (decide_eq_true rfl)) <|hc (gp (aA rfl) (aA rfl) (aF rfl)) <|hc (gn (aA rfl) (aA rfl) (aF rfl)) <|hc (xN (aA rfl) (aA rfl)) <|hc (hokPln (bY (aA rfl) (aA rfl) (aA rfl) (aA rfl) (aA rfl)) (aA rfl) (aA rfl) (aF rfl)) <|hc (hokRpl (bY (aA rfl) (aA rfl) (aA rfl) (aA rfl) (aA rfl)) (aA rfl) (aA rfl) (aF rfl)) <|hc (br (aA rfl) (aA rfl) (decide_eq_true rfl)) <|hc (br (aA rfl) (aA rfl) (decide_eq_true rfl)) <|hc (aY5 (bY (aA rfl) (aA rfl) (aA rfl) (aA rfl) (aA rfl)) (aA rfl) (aA rfl) dS (aA rfl) (aF rfl)) <|hc (aY3 (bY (aA rfl) (aA rfl) (aA rfl) (aA rfl) (aA rfl)) (aA rfl) (aA rfl) dS (aA rfl) (aF rfl)) <|hc (br (aA rfl) (aA rfl) (decide_eq_true rfl)) <|hc (aY6 (bY (aA rfl) (aA rfl) (aA rfl) (aA rfl) (aA rfl)) (aA rfl) (aA rfl) dS (aF rfl)) <|hc (aY4 (bY (aA rfl) (aA rfl) (aA rfl) (aA rfl) (aA rfl)) (aA rfl) (aA rfl) dS (aF rfl)) <|hc (br (aA rfl) (aA rfl) (decide_eq_true rfl)) <|hc (eJ (bY (aA rfl) (aA rfl) (aA rfl) (aA rfl) (aA rfl)) (aA rfl) (aA rfl) dS (aF rfl)) <|hc (eI (bY (aA rfl) (aA rfl) (aA rfl) (aA rfl) (aA rfl)) (aA rfl) (aA rfl) dS (aF rfl)) <|hc (xN (aA rfl) (aA rfl)) <|hnil
 exact po (tb := tab4) (bM.lp2 (bM.lp2 ((ab (ay (nu4 m rt q aE aC aD rb hs aB bF bG bE z n kp s) (rX (ro4 m rt q aE aC aD rb hs aB bF bG bE z n kp s) (fun _ => .bool true))) (az (on4 m rt q aE aC aD rb hs aB bF bG bE z n kp s))).hyps ho) (by omega) jr aH8 (bq (.inr ⟨⟨rfl, rfl⟩, cfA11, cfHdR_0 (l := lf55) (h := lh55) (qA := (0, .x 21)) m rt q aE aC aD rb hs aB kp z (by omega) (by omega) (by omega) (by omega) (by omega) (by omega) (by omega) (by assumption) (by assumption) (by omega) rfl rfl (by kernel_rfl) (bD := [(0, .x 0), (1, .x 1), (2, .x 2), (3, .x 3), (4, .x 4), (5, .x 5), (6, .x 6), (7, .x 8), (2000000, .x 2000000)]) (a8 := []) (aW (v := St' m) (aW (v := St' rt) (aW (v := .int .i64 (q)) (aW (v := .slice aE aC aD) (aW (v := St' rb) (aW (v := .int .i64 (hs)) (aW (v := St' aB) (aW (v := .bool kp) (aW (v := aN aM z) (ao)))))))))) (by kernel_rfl) (bB := [(21, .x 0), (2000002, .x 2000000)]) (aW (v := St' (cD m q hs aB kp z)) (aW (v := aN aM z) (ao))) (by kernel_rfl)⟩) bj)) (by omega) (cG (by omega) (by omega) jq) jG (bq (.inr ⟨⟨rfl, rfl⟩, cfA12, cfRhR_0 (l := lf56) (h := lh56) (qA := (0, .x 22)) m rt q aE aC aD rb hs aB kp z (by omega) (by omega) (by omega) (by omega) (by omega) (by omega) (by omega) (by assumption) (by assumption) (by omega) rfl rfl (by kernel_rfl) (bD := [(0, .x 0), (1, .x 1), (2, .x 2), (3, .x 3), (4, .x 4), (5, .x 5), (6, .x 6), (7, .x 8), (2000000, .x 2000002)]) (a8 := []) (aW (v := St' m) (aW (v := St' rt) (aW (v := .int .i64 (q)) (aW (v := .slice aE aC aD) (aW (v := St' rb) (aW (v := .int .i64 (hs)) (aW (v := St' aB) (aW (v := .bool kp) (aW (v := aN aM z) (ao)))))))))) (by kernel_rfl) (bB := [(22, .x 0), (2000003, .x 2000000)]) (aW (v := St' (cD m q hs aB kp z)) (aW (v := aN aM z) (ao))) (by kernel_rfl)⟩) bj)) rfl (cG (by omega) (by omega) (cG (by omega) (by omega) fi3_at)) fiB3 [.r 2000000 37 2 true] [⟨bF, bG, z.length, bE⟩] run4 (args := [.agg #[St' m, St' rt, .int .i64 q, .slice aE aC aD, St' rb], .agg #[.int .i64 hs, St' aB, .slice (some ⟨bF, bG, none⟩) z.length bE], .int .i64 n, .bool kp, St' s]) ⟨_, _, rfl, ⟨_, rfl, ⟨_, _, rfl, rfl, ⟨_, _, rfl, rfl, ⟨_, _, rfl, rfl, ⟨_, _, rfl, rfl, ⟨_, _, rfl, rfl, rfl⟩⟩⟩⟩⟩⟩, ⟨_, _, rfl, ⟨_, rfl, ⟨_, _, rfl, rfl, ⟨_, _, rfl, rfl, ⟨_, _, rfl, qC (by decide) rfl de.room, rfl⟩⟩⟩⟩, ⟨_, _, rfl, rfl, ⟨_, _, rfl, rfl, ⟨_, _, rfl, rfl, rfl⟩⟩⟩⟩⟩ w hl rfl (by decide) (rk (de.arg (T.cy _) rfl) rj) rfl
end Go.Proofs.YtngkglegomkjkaaDoor.replyTells
