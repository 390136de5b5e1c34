/- A part of the proof: an interpreter of the model's own code on partly known states, and that what it answers is what the program answers. No condition of its own. -/
import Derived.Test.YtfoalkoifcpdmaaT1FramesTellsO5
set_option maxRecDepth 100000
set_option linter.unusedVariables false
set_option linter.unusedSimpArgs false
set_option maxHeartbeats 4000000
namespace Go.Proofs.Ytfoalkoifcpdmaa.framesTells
open Go Go.AX Go.Proofs Go.Proofs.Ytfoalkoifcpdmaa
def hy3 : LK := [(.bytes [], .x 3),
  (.rn, .x 2000001),
  (.rl (.x 2000000) 2, .x 4),
  (.bin .gtr (.x 4) (I6 30), .b false),
  (.len (.x 2), .x 5),
  (.bin .gtr (.x 5) (I6 5000), .b true)]
theorem run3 : Go.AX.okB (call (tbl hy3) 9000 3 [.x 0, .x 1, .sr 1, .x 2] ⟨addR 1 [.r 2000000 25 2 true] (H0 ), 1 + List.length (α := Ent) [.r 2000000 25 2 true], 0, 0⟩) = true := by kernel_rfl
def nu3 (t : Int) (id_ : Int) (aB5 : Nat) (aB1 : Nat) (es_z : Nat) (z : List (LB × LB)) (body : LB) : List Value := [.int .i64 (t),
  .int .i64 (id_),
  St' body,
  St' ([] : LB),
  .int .i64 ((z.length : Int)),
  .int .i64 ((body.length : Int))]
def ro3 (t : Int) (id_ : Int) (aB5 : Nat) (aB1 : Nat) (es_z : Nat) (z : List (LB × LB)) (body : LB) : List Value := [rwG prC z,
  rwS ([] : List LB)]
theorem on3 (t : Int) (id_ : Int) (aB5 : Nat) (aB1 : Nat) (es_z : Nat) (z : List (LB × LB)) (body : LB) : ∀ j, (nuL (nu3 t id_ aB5 aB1 es_z z body) j).oneCell' = true := aA6 (l := nu3 t id_ aB5 aB1 es_z z body) rfl
theorem path3 (t : Int) (id_ : Int) (aB5 : Nat) (aB1 : Nat) (es_z : Nat) (z : List (LB × LB)) (body : LB) (b0 : -9223372036854775808 ≤ t) (b1 : t ≤ 9223372036854775807) (b2 : -9223372036854775808 ≤ id_) (b3 : id_ ≤ 9223372036854775807) (b4 : 1 ≤ z.length) (b5 : ∀ n, n ∈ z → prB n) (b6 : z.length ≤ 9223372036854775807) (b7 : body.length ≤ 9223372036854775807) (h0 : ¬ (30 < (z.length : Int))) (h1 : 5000 < (body.length : Int)) (w : World) (hl : aA5 w) (w_z : bY5 w 2 (z.flatMap prC) aB5 aB1 z.length es_z) (g_z : (H0 ).get aB5 = none) : CwR 3 #[.int .i64 t, .int .i64 id_, .slice (some ⟨aB5, aB1, none⟩) z.length es_z, St' body] w (.bool true) := by
  have hn0 : ([] : LB).length = 0 := rfl
  have ho : ∀ k r, (k, r) ∈ hy3 → HOk (cx (nuX (nu3 t id_ aB5 aB1 es_z z body) (rX (ro3 t id_ aB5 aB1 es_z z body) (fun _ => .bool true))) (aA7 (on3 t id_ aB5 aB1 es_z z body)) 0 aA5 aA0) k r := by
    unfold hy3
    exact hc (kB0 rfl) <|hc (kRn (denX rfl)) <|hc (kRlG aD0 (isX rfl) (denX rfl) (by first | omega | (simp <;> omega))) <|hc (gtcF rfl (by omega)) <|hc (lnV rfl rfl (by omega)) <|hc (gtcT rfl (by omega)) <|hnil
  obtain ⟨fi, hfi, hb⟩ := fiE
  exact runPR (tb := (tbl hy3)) ((aC2 (nuX (nu3 t id_ aB5 aB1 es_z z body) (rX (ro3 t id_ aB5 aB1 es_z z body) (fun _ => .bool true))) (aA7 (on3 t id_ aB5 aB1 es_z z body))).hyps ho) rfl hfi hb [.r 2000000 25 2 true] [⟨aB5, aB1, z.length, es_z⟩] (run3 ) (args := [.int .i64 t, .int .i64 id_, .slice (some ⟨aB5, aB1, none⟩) z.length es_z, St' body]) ⟨_, _, rfl, rfl, ⟨_, _, rfl, rfl, ⟨_, _, rfl, cA3 (by decide) rfl w_z.room, ⟨_, _, rfl, rfl, rfl⟩⟩⟩⟩ w hl rfl (by decide) ((aZ6 (w_z.arg (g_z ) rfl) bM4)) rfl
def hy4 : LK := [(.bytes [], .x 3),
  (.rn, .x 2000001),
  (.rl (.x 2000000) 2, .x 4),
  (.bin .gtr (.x 4) (I6 30), .b true)]
theorem run4 : Go.AX.okB (call (tbl hy4) 9000 3 [.x 0, .x 1, .sr 1, .x 2] ⟨addR 1 [.r 2000000 25 2 true] (H0 ), 1 + List.length (α := Ent) [.r 2000000 25 2 true], 0, 0⟩) = true := by kernel_rfl
def nu4 (t : Int) (id_ : Int) (aB5 : Nat) (aB1 : Nat) (es_z : Nat) (z : List (LB × LB)) (body : LB) : List Value := [.int .i64 (t),
  .int .i64 (id_),
  St' body,
  St' ([] : LB),
  .int .i64 ((z.length : Int))]
def ro4 (t : Int) (id_ : Int) (aB5 : Nat) (aB1 : Nat) (es_z : Nat) (z : List (LB × LB)) (body : LB) : List Value := [rwG prC z,
  rwS ([] : List LB)]
theorem on4 (t : Int) (id_ : Int) (aB5 : Nat) (aB1 : Nat) (es_z : Nat) (z : List (LB × LB)) (body : LB) : ∀ j, (nuL (nu4 t id_ aB5 aB1 es_z z body) j).oneCell' = true := aA6 (l := nu4 t id_ aB5 aB1 es_z z body) rfl
theorem path4 (t : Int) (id_ : Int) (aB5 : Nat) (aB1 : Nat) (es_z : Nat) (z : List (LB × LB)) (body : LB) (b0 : -9223372036854775808 ≤ t) (b1 : t ≤ 9223372036854775807) (b2 : -9223372036854775808 ≤ id_) (b3 : id_ ≤ 9223372036854775807) (b4 : 1 ≤ z.length) (b5 : ∀ n, n ∈ z → prB n) (b6 : z.length ≤ 9223372036854775807) (b7 : body.length ≤ 9223372036854775807) (h0 : 30 < (z.length : Int)) (w : World) (hl : aA5 w) (w_z : bY5 w 2 (z.flatMap prC) aB5 aB1 z.length es_z) (g_z : (H0 ).get aB5 = none) : CwR 3 #[.int .i64 t, .int .i64 id_, .slice (some ⟨aB5, aB1, none⟩) z.length es_z, St' body] w (.bool true) := by
  have hn0 : ([] : LB).length = 0 := rfl
  have ho : ∀ k r, (k, r) ∈ hy4 → HOk (cx (nuX (nu4 t id_ aB5 aB1 es_z z body) (rX (ro4 t id_ aB5 aB1 es_z z body) (fun _ => .bool true))) (aA7 (on4 t id_ aB5 aB1 es_z z body)) 0 aA5 aA0) k r := by
    unfold hy4
    exact hc (kB0 rfl) <|hc (kRn (denX rfl)) <|hc (kRlG aD0 (isX rfl) (denX rfl) (by first | omega | (simp <;> omega))) <|hc (gtcT rfl (by omega)) <|hnil
  obtain ⟨fi, hfi, hb⟩ := fiE
  exact runPR (tb := (tbl hy4)) ((aC2 (nuX (nu4 t id_ aB5 aB1 es_z z body) (rX (ro4 t id_ aB5 aB1 es_z z body) (fun _ => .bool true))) (aA7 (on4 t id_ aB5 aB1 es_z z body))).hyps ho) rfl hfi hb [.r 2000000 25 2 true] [⟨aB5, aB1, z.length, es_z⟩] (run4 ) (args := [.int .i64 t, .int .i64 id_, .slice (some ⟨aB5, aB1, none⟩) z.length es_z, St' body]) ⟨_, _, rfl, rfl, ⟨_, _, rfl, rfl, ⟨_, _, rfl, cA3 (by decide) rfl w_z.room, ⟨_, _, rfl, rfl, rfl⟩⟩⟩⟩ w hl rfl (by decide) ((aZ6 (w_z.arg (g_z ) rfl) bM4)) rfl
def hy5 : LK := [(.bytes [], .x 3),
  (.rn, .x 2000001),
  (.rl (.x 2000000) 2, .x 4),
  (.bin .gtr (.x 4) (I6 30), .b false),
  (.len (.x 2), .x 5),
  (.bin .gtr (.x 5) (I6 5000), .b false)]
def lh34 : LH := ⟨1, 11, 41, [(1, .r 2000000 25 2 true)], []⟩
def lf34 : LF := ⟨6, 69, [(2, .sr 1), (9, I6 0)], [0, 1, 3], .ret, [(8, .b true)], some lh34⟩
noncomputable def tab5 : Tab := aF9 ({ tabk with hyp := hy5 }) 3 fi3 [lf34]
theorem run5 : Go.AX.okB (call tab5 9000 3 [.x 0, .x 1, .sr 1, .x 2] ⟨addR 1 [.r 2000000 25 2 true] (H0 ), 1 + List.length (α := Ent) [.r 2000000 25 2 true], 0, 0⟩) = true := by kernel_rfl
def nu5 (t : Int) (id_ : Int) (aB5 : Nat) (aB1 : Nat) (es_z : Nat) (z : List (LB × LB)) (body : LB) : List Value := [.int .i64 (t),
  .int .i64 (id_),
  St' body,
  St' ([] : LB),
  .int .i64 ((z.length : Int)),
  .int .i64 ((body.length : Int))]
def ro5 (t : Int) (id_ : Int) (aB5 : Nat) (aB1 : Nat) (es_z : Nat) (z : List (LB × LB)) (body : LB) : List Value := [rwG prC z,
  rwS ([] : List LB)]
theorem on5 (t : Int) (id_ : Int) (aB5 : Nat) (aB1 : Nat) (es_z : Nat) (z : List (LB × LB)) (body : LB) : ∀ j, (nuL (nu5 t id_ aB5 aB1 es_z z body) j).oneCell' = true := aA6 (l := nu5 t id_ aB5 aB1 es_z z body) rfl
theorem path5 (t : Int) (id_ : Int) (aB5 : Nat) (aB1 : Nat) (es_z : Nat) (z : List (LB × LB)) (body : LB) (b0 : -9223372036854775808 ≤ t) (b1 : t ≤ 9223372036854775807) (b2 : -9223372036854775808 ≤ id_) (b3 : id_ ≤ 9223372036854775807) (b4 : 1 ≤ z.length) (b5 : ∀ n, n ∈ z → prB n) (b6 : z.length ≤ 9223372036854775807) (b7 : body.length ≤ 9223372036854775807) (h0 : ¬ (30 < (z.length : Int))) (h1 : ¬ (5000 < (body.length : Int))) (h2 : ¬ (ok6 z)) (w : World) (hl : aA5 w) (w_z : bY5 w 2 (z.flatMap prC) aB5 aB1 z.length es_z) (g_z : (H0 ).get aB5 = none) : CwR 3 #[.int .i64 t, .int .i64 id_, .slice (some ⟨aB5, aB1, none⟩) z.length es_z, St' body] w (.bool true) := by
  have hn0 : ([] : LB).length = 0 := rfl
  have ho : ∀ k r, (k, r) ∈ hy5 → HOk (cx (nuX (nu5 t id_ aB5 aB1 es_z z body) (rX (ro5 t id_ aB5 aB1 es_z z body) (fun _ => .bool true))) (aA7 (on5 t id_ aB5 aB1 es_z z body)) 0 aA5 aA0) k r := by
    unfold hy5
    exact hc (kB0 rfl) <|hc (kRn (denX rfl)) <|hc (kRlG aD0 (isX rfl) (denX rfl) (by first | omega | (simp <;> omega))) <|hc (gtcF rfl (by omega)) <|hc (lnV rfl rfl (by omega)) <|hc (gtcF rfl (by omega)) <|hnil
  exact runPR (tb := tab5) (aC6.lp1 ((aC2 (nuX (nu5 t id_ aB5 aB1 es_z z body) (rX (ro5 t id_ aB5 aB1 es_z z body) (fun _ => .bool true))) (aA7 (on5 t id_ aB5 aB1 es_z z body))).hyps ho) (by omega) cO8 bL7 (aE4 (aG5 rfl ⟨0, keyOk1, lfOkOk1_1 (l := lf34) (h := lh34) z (by assumption) (0, (0 : Int)) (cM7 ⟨by omega, by omega, by omega, by assumption, (fun q hq => nomatch hq), by omega⟩) rfl (by kernel_rfl) (th0 := [(0, I6 0), (2000000, .x 2000000)]) (sg0 := []) (fun X => aF5 (show Is _ (I6 0) (.int .i64 ((0 : Int))) from isTo (v := .int .i64 0) (isI _ _) (by first | rfl | (congr 1; omega))) (thXv (v := rwG prC z) rfl rfl (aB4))) (by kernel_rfl) (thx := []) (aB4) (by kernel_rfl)⟩) aR5)) rfl (aR9 (by omega)) fiB3 [.r 2000000 25 2 true] [⟨aB5, aB1, z.length, es_z⟩] (run5 ) (args := [.int .i64 t, .int .i64 id_, .slice (some ⟨aB5, aB1, none⟩) z.length es_z, St' body]) ⟨_, _, rfl, rfl, ⟨_, _, rfl, rfl, ⟨_, _, rfl, cA3 (by decide) rfl w_z.room, ⟨_, _, rfl, rfl, rfl⟩⟩⟩⟩ w hl rfl (by decide) ((aZ6 (w_z.arg (g_z ) rfl) bM4)) rfl
end Go.Proofs.Ytfoalkoifcpdmaa.framesTells
