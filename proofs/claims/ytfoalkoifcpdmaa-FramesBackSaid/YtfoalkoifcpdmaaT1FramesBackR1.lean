/- A part of the proof: an interpreter of the model's own code on partly known states, and that what it answers is what the program answers. No condition of its own. -/
import Derived.Test.YtfoalkoifcpdmaaT1FramesBackO5
set_option maxRecDepth 100000
set_option linter.unusedVariables false
set_option linter.unusedSimpArgs false
set_option maxHeartbeats 4000000
namespace Go.Proofs.Ytfoalkoifcpdmaa.framesBack
open Go Go.AX Go.Proofs Go.Proofs.Ytfoalkoifcpdmaa
def hy3 : LK := [(.bytes [], .x 2),
  (.rn, .x 2000001),
  (.rl (.x 2000000) 2, .x 3),
  (.bin .gtr (.x 3) (I6 30), .b false),
  (.len (.x 1), .x 4),
  (.bin .gtr (.x 4) (I6 5000), .b true)]
theorem run3 : Go.AX.okB (call (tbl hy3) 9000 4 [.x 0, .sr 1, .x 1] ⟨addR 1 [.r 2000000 25 2 true] (H0 ), 1 + List.length (α := Ent) [.r 2000000 25 2 true], 0, 0⟩) = true := by kernel_rfl
def nu3 (id_ : Int) (aB9 : Nat) (aB6 : Nat) (es_z : Nat) (z : List (LB × LB)) (body : LB) : List Value := [.int .u8 (id_),
  St' body,
  St' ([] : LB),
  .int .i64 ((z.length : Int)),
  .int .i64 ((body.length : Int))]
def ro3 (id_ : Int) (aB9 : Nat) (aB6 : Nat) (es_z : Nat) (z : List (LB × LB)) (body : LB) : List Value := [rwG prC z,
  rwS ([] : List LB)]
theorem on3 (id_ : Int) (aB9 : Nat) (aB6 : Nat) (es_z : Nat) (z : List (LB × LB)) (body : LB) : ∀ j, (nuL (nu3 id_ aB9 aB6 es_z z body) j).oneCell' = true := aA9 (l := nu3 id_ aB9 aB6 es_z z body) rfl
theorem path3 (id_ : Int) (aB9 : Nat) (aB6 : Nat) (es_z : Nat) (z : List (LB × LB)) (body : LB) (b0 : 0 ≤ id_) (b1 : id_ ≤ 255) (b2 : 1 ≤ z.length) (b3 : ∀ n, n ∈ z → prB n) (b4 : z.length ≤ 9223372036854775807) (b5 : body.length ≤ 9223372036854775807) (h0 : ¬ (30 < (z.length : Int))) (h1 : 5000 < (body.length : Int)) (w : World) (hl : aB0 w) (w_z : cV0 w 2 (z.flatMap prC) aB9 aB6 z.length es_z) (g_z : (H0 ).get aB9 = none) : CwR 4 #[.int .u8 id_, .slice (some ⟨aB9, aB6, none⟩) z.length es_z, St' body] w (.bool true) := by
  have hn0 : ([] : LB).length = 0 := rfl
  have ho : ∀ k r, (k, r) ∈ hy3 → HOk (cx (nuX (nu3 id_ aB9 aB6 es_z z body) (rX (ro3 id_ aB9 aB6 es_z z body) (fun _ => .bool true))) (aB3 (on3 id_ aB9 aB6 es_z z body)) 0 aB0 aA1) k r := by
    unfold hy3
    exact hc (kB0 rfl) <|hc (kRn (denX rfl)) <|hc (kRlG aD6 (isX rfl) (denX rfl) (by first | omega | (simp <;> omega))) <|hc (gtcF rfl (by omega)) <|hc (lnV rfl rfl (by omega)) <|hc (gtcT rfl (by omega)) <|hnil
  obtain ⟨fi, hfi, hb⟩ := fiE
  exact runPR (tb := (tbl hy3)) ((aD2 (nuX (nu3 id_ aB9 aB6 es_z z body) (rX (ro3 id_ aB9 aB6 es_z z body) (fun _ => .bool true))) (aB3 (on3 id_ aB9 aB6 es_z z body))).hyps ho) rfl hfi hb [.r 2000000 25 2 true] [⟨aB9, aB6, z.length, es_z⟩] (run3 ) (args := [.int .u8 id_, .slice (some ⟨aB9, aB6, none⟩) z.length es_z, St' body]) ⟨_, _, rfl, rfl, ⟨_, _, rfl, cP1 (by decide) rfl w_z.room, ⟨_, _, rfl, rfl, rfl⟩⟩⟩ w hl rfl (by decide) ((bD7 (w_z.arg (g_z ) rfl) bT5)) rfl
def hy4 : LK := [(.bytes [], .x 2),
  (.rn, .x 2000001),
  (.rl (.x 2000000) 2, .x 3),
  (.bin .gtr (.x 3) (I6 30), .b true)]
theorem run4 : Go.AX.okB (call (tbl hy4) 9000 4 [.x 0, .sr 1, .x 1] ⟨addR 1 [.r 2000000 25 2 true] (H0 ), 1 + List.length (α := Ent) [.r 2000000 25 2 true], 0, 0⟩) = true := by kernel_rfl
def nu4 (id_ : Int) (aB9 : Nat) (aB6 : Nat) (es_z : Nat) (z : List (LB × LB)) (body : LB) : List Value := [.int .u8 (id_),
  St' body,
  St' ([] : LB),
  .int .i64 ((z.length : Int))]
def ro4 (id_ : Int) (aB9 : Nat) (aB6 : Nat) (es_z : Nat) (z : List (LB × LB)) (body : LB) : List Value := [rwG prC z,
  rwS ([] : List LB)]
theorem on4 (id_ : Int) (aB9 : Nat) (aB6 : Nat) (es_z : Nat) (z : List (LB × LB)) (body : LB) : ∀ j, (nuL (nu4 id_ aB9 aB6 es_z z body) j).oneCell' = true := aA9 (l := nu4 id_ aB9 aB6 es_z z body) rfl
theorem path4 (id_ : Int) (aB9 : Nat) (aB6 : Nat) (es_z : Nat) (z : List (LB × LB)) (body : LB) (b0 : 0 ≤ id_) (b1 : id_ ≤ 255) (b2 : 1 ≤ z.length) (b3 : ∀ n, n ∈ z → prB n) (b4 : z.length ≤ 9223372036854775807) (b5 : body.length ≤ 9223372036854775807) (h0 : 30 < (z.length : Int)) (w : World) (hl : aB0 w) (w_z : cV0 w 2 (z.flatMap prC) aB9 aB6 z.length es_z) (g_z : (H0 ).get aB9 = none) : CwR 4 #[.int .u8 id_, .slice (some ⟨aB9, aB6, none⟩) z.length es_z, St' body] w (.bool true) := by
  have hn0 : ([] : LB).length = 0 := rfl
  have ho : ∀ k r, (k, r) ∈ hy4 → HOk (cx (nuX (nu4 id_ aB9 aB6 es_z z body) (rX (ro4 id_ aB9 aB6 es_z z body) (fun _ => .bool true))) (aB3 (on4 id_ aB9 aB6 es_z z body)) 0 aB0 aA1) k r := by
    unfold hy4
    exact hc (kB0 rfl) <|hc (kRn (denX rfl)) <|hc (kRlG aD6 (isX rfl) (denX rfl) (by first | omega | (simp <;> omega))) <|hc (gtcT rfl (by omega)) <|hnil
  obtain ⟨fi, hfi, hb⟩ := fiE
  exact runPR (tb := (tbl hy4)) ((aD2 (nuX (nu4 id_ aB9 aB6 es_z z body) (rX (ro4 id_ aB9 aB6 es_z z body) (fun _ => .bool true))) (aB3 (on4 id_ aB9 aB6 es_z z body))).hyps ho) rfl hfi hb [.r 2000000 25 2 true] [⟨aB9, aB6, z.length, es_z⟩] (run4 ) (args := [.int .u8 id_, .slice (some ⟨aB9, aB6, none⟩) z.length es_z, St' body]) ⟨_, _, rfl, rfl, ⟨_, _, rfl, cP1 (by decide) rfl w_z.room, ⟨_, _, rfl, rfl, rfl⟩⟩⟩ w hl rfl (by decide) ((bD7 (w_z.arg (g_z ) rfl) bT5)) rfl
def hy5 : LK := [(.bytes [], .x 2),
  (.rn, .x 2000001),
  (.rl (.x 2000000) 2, .x 3),
  (.bin .gtr (.x 3) (I6 30), .b false),
  (.len (.x 1), .x 4),
  (.bin .gtr (.x 4) (I6 5000), .b false),
  (.bin .eql (.x 0) (.i .u8 (.ofNat 0)), .b false)]
def lh16 : LH := ⟨1, 11, 41, [(1, .r 2000000 25 2 true)], []⟩
def lf16 : LF := ⟨6, 175, [(1, .sr 1), (7, I6 0)], [0, 2], .ret, [(6, .b true)], some lh16⟩
noncomputable def tab5 : Tab := aL2 ({ tabk with hyp := hy5 }) 4 fi4 [lf16]
theorem run5 : Go.AX.okB (call tab5 9000 4 [.x 0, .sr 1, .x 1] ⟨addR 1 [.r 2000000 25 2 true] (H0 ), 1 + List.length (α := Ent) [.r 2000000 25 2 true], 0, 0⟩) = true := by kernel_rfl
def nu5 (id_ : Int) (aB9 : Nat) (aB6 : Nat) (es_z : Nat) (z : List (LB × LB)) (body : LB) : List Value := [.int .u8 (id_),
  St' body,
  St' ([] : LB),
  .int .i64 ((z.length : Int)),
  .int .i64 ((body.length : Int))]
def ro5 (id_ : Int) (aB9 : Nat) (aB6 : Nat) (es_z : Nat) (z : List (LB × LB)) (body : LB) : List Value := [rwG prC z,
  rwS ([] : List LB)]
theorem on5 (id_ : Int) (aB9 : Nat) (aB6 : Nat) (es_z : Nat) (z : List (LB × LB)) (body : LB) : ∀ j, (nuL (nu5 id_ aB9 aB6 es_z z body) j).oneCell' = true := aA9 (l := nu5 id_ aB9 aB6 es_z z body) rfl
theorem path5 (id_ : Int) (aB9 : Nat) (aB6 : Nat) (es_z : Nat) (z : List (LB × LB)) (body : LB) (b0 : 0 ≤ id_) (b1 : id_ ≤ 255) (b2 : 1 ≤ z.length) (b3 : ∀ n, n ∈ z → prB n) (b4 : z.length ≤ 9223372036854775807) (b5 : body.length ≤ 9223372036854775807) (h0 : ¬ (30 < (z.length : Int))) (h1 : ¬ (5000 < (body.length : Int))) (h2 : ¬ (id_ = 0)) (h3 : ¬ (ok6 z)) (w : World) (hl : aB0 w) (w_z : cV0 w 2 (z.flatMap prC) aB9 aB6 z.length es_z) (g_z : (H0 ).get aB9 = none) : CwR 4 #[.int .u8 id_, .slice (some ⟨aB9, aB6, none⟩) z.length es_z, St' body] w (.bool true) := by
  have hn0 : ([] : LB).length = 0 := rfl
  have ho : ∀ k r, (k, r) ∈ hy5 → HOk (cx (nuX (nu5 id_ aB9 aB6 es_z z body) (rX (ro5 id_ aB9 aB6 es_z z body) (fun _ => .bool true))) (aB3 (on5 id_ aB9 aB6 es_z z body)) 0 aB0 aA1) k r := by
    unfold hy5
    exact hc (kB0 rfl) <|hc (kRn (denX rfl)) <|hc (kRlG aD6 (isX rfl) (denX rfl) (by first | omega | (simp <;> omega))) <|hc (gtcF rfl (by omega)) <|hc (lnV rfl rfl (by omega)) <|hc (gtcF rfl (by omega)) <|hc (eqcF rfl (by omega)) <|hnil
  exact runPR (tb := tab5) (aF3.lp1 ((aD2 (nuX (nu5 id_ aB9 aB6 es_z z body) (rX (ro5 id_ aB9 aB6 es_z z body) (fun _ => .bool true))) (aB3 (on5 id_ aB9 aB6 es_z z body))).hyps ho) (by omega) dO7 bM3 (aN4 (aO8 rfl ⟨0, keyOk1, lfOkOk1_1 (l := lf16) (h := lh16) z (by assumption) (0, (0 : Int)) (dN0 ⟨by omega, by omega, by omega, by assumption, (fun q hq => nomatch hq), by omega⟩) rfl (by kernel_rfl) (th0 := [(0, I6 0), (2000000, .x 2000000)]) (sg0 := []) (fun X => aJ2 (show Is _ (I6 0) (.int .i64 ((0 : Int))) from isTo (v := .int .i64 0) (isI _ _) (by first | rfl | (congr 1; omega))) (thXv (v := rwG prC z) rfl rfl (aE0))) (by kernel_rfl) (thx := []) (aE0) (by kernel_rfl)⟩) bQ1)) rfl (bF5 (by omega)) fiB4 [.r 2000000 25 2 true] [⟨aB9, aB6, z.length, es_z⟩] (run5 ) (args := [.int .u8 id_, .slice (some ⟨aB9, aB6, none⟩) z.length es_z, St' body]) ⟨_, _, rfl, rfl, ⟨_, _, rfl, cP1 (by decide) rfl w_z.room, ⟨_, _, rfl, rfl, rfl⟩⟩⟩ w hl rfl (by decide) ((bD7 (w_z.arg (g_z ) rfl) bT5)) rfl
end Go.Proofs.Ytfoalkoifcpdmaa.framesBack
