/- A part of the proof: an interpreter of the model's own code on partly known states, and that what it answers is what the program answers. No condition of its own. -/
import Derived.Test.YtfoalkoifcpdmaaT1FramesBackO5
set_option maxRecDepth 100000
set_option linter.unusedVariables false
set_option linter.unusedSimpArgs false
set_option maxHeartbeats 4000000
namespace Go.Proofs.Ytfoalkoifcpdmaa.framesBack
open Go Go.AX Go.Proofs Go.Proofs.Ytfoalkoifcpdmaa
def hy6 : LK := [(.bytes [], .x 2),
  (.rn, .x 2000000),
  (.len (.x 1), .x 3),
  (.bin .gtr (.x 3) (I6 5000), .b false),
  (.bin .eql (.x 0) (.i .u8 (.ofNat 0)), .b true)]
theorem run6 : Go.AX.okB (call (tbl hy6) 9000 4 [.x 0, .es, .x 1] ⟨H0 , 1, 0, 0⟩) = true := by kernel_rfl
def nu6 (id_ : Int) (ad_z : Option Addr) (cp_z : Nat) (body : LB) : List Value := [.int .u8 (id_),
  St' body,
  St' ([] : LB),
  .int .i64 ((body.length : Int))]
def ro6 (id_ : Int) (ad_z : Option Addr) (cp_z : Nat) (body : LB) : List Value := [rwS ([] : List LB)]
theorem on6 (id_ : Int) (ad_z : Option Addr) (cp_z : Nat) (body : LB) : ∀ j, (nuL (nu6 id_ ad_z cp_z body) j).oneCell' = true := aA9 (l := nu6 id_ ad_z cp_z body) rfl
theorem path6 (id_ : Int) (ad_z : Option Addr) (cp_z : Nat) (body : LB) (b0 : 0 ≤ id_) (b1 : id_ ≤ 255) (b2 : body.length ≤ 9223372036854775807) (h0 : ¬ (5000 < (body.length : Int))) (h1 : id_ = 0) (w : World) (hl : aB0 w) : CwR 4 #[.int .u8 id_, .slice ad_z 0 cp_z, St' body] w (.bool true) := by
  have hn0 : ([] : LB).length = 0 := rfl
  have ho : ∀ k r, (k, r) ∈ hy6 → HOk (cx (nuX (nu6 id_ ad_z cp_z body) (rX (ro6 id_ ad_z cp_z body) (fun _ => .bool true))) (aB3 (on6 id_ ad_z cp_z body)) 0 aB0 aA1) k r := by
    unfold hy6
    exact hc (kB0 rfl) <|hc (kRn (denX rfl)) <|hc (lnV rfl rfl (by omega)) <|hc (gtcF rfl (by omega)) <|hc (eqcT rfl (by omega)) <|hnil
  obtain ⟨fi, hfi, hb⟩ := fiE
  exact runP (tb := (tbl hy6)) ((aD2 (nuX (nu6 id_ ad_z cp_z body) (rX (ro6 id_ ad_z cp_z body) (fun _ => .bool true))) (aB3 (on6 id_ ad_z cp_z body))).hyps ho) rfl hfi hb (run6 ) (args := [.int .u8 id_, .slice ad_z 0 cp_z, St' body]) (by simp only [RelL, Rel]; exact ⟨_, _, rfl, rfl, ⟨_, _, rfl, ⟨_, _, rfl⟩, ⟨_, _, rfl, rfl, rfl⟩⟩⟩) w hl
def hy7 : LK := [(.bytes [], .x 2),
  (.rn, .x 2000001),
  (.rl (.x 2000000) 2, .x 3),
  (.bin .gtr (.x 3) (I6 30), .b false),
  (.len (.x 1), .x 4),
  (.bin .gtr (.x 4) (I6 5000), .b false),
  (.bin .eql (.x 0) (.i .u8 (.ofNat 0)), .b true)]
theorem run7 : Go.AX.okB (call (tbl hy7) 9000 4 [.x 0, .sr 1, .x 1] ⟨addR 1 [.r 2000000 25 2 true] (H0 ), 1 + List.length (α := Ent) [.r 2000000 25 2 true], 0, 0⟩) = true := by kernel_rfl
def nu7 (id_ : Int) (aB9 : Nat) (aB6 : Nat) (es_z : Nat) (z : List (LB × LB)) (body : LB) : List Value := [.int .u8 (id_),
  St' body,
  St' ([] : LB),
  .int .i64 ((z.length : Int)),
  .int .i64 ((body.length : Int))]
def ro7 (id_ : Int) (aB9 : Nat) (aB6 : Nat) (es_z : Nat) (z : List (LB × LB)) (body : LB) : List Value := [rwG prC z,
  rwS ([] : List LB)]
theorem on7 (id_ : Int) (aB9 : Nat) (aB6 : Nat) (es_z : Nat) (z : List (LB × LB)) (body : LB) : ∀ j, (nuL (nu7 id_ aB9 aB6 es_z z body) j).oneCell' = true := aA9 (l := nu7 id_ aB9 aB6 es_z z body) rfl
theorem path7 (id_ : Int) (aB9 : Nat) (aB6 : Nat) (es_z : Nat) (z : List (LB × LB)) (body : LB) (b0 : 0 ≤ id_) (b1 : id_ ≤ 255) (b2 : 1 ≤ z.length) (b3 : ∀ n, n ∈ z → prB n) (b4 : z.length ≤ 9223372036854775807) (b5 : body.length ≤ 9223372036854775807) (h0 : ¬ (30 < (z.length : Int))) (h1 : ¬ (5000 < (body.length : Int))) (h2 : id_ = 0) (w : World) (hl : aB0 w) (w_z : cV0 w 2 (z.flatMap prC) aB9 aB6 z.length es_z) (g_z : (H0 ).get aB9 = none) : CwR 4 #[.int .u8 id_, .slice (some ⟨aB9, aB6, none⟩) z.length es_z, St' body] w (.bool true) := by
  have hn0 : ([] : LB).length = 0 := rfl
  have ho : ∀ k r, (k, r) ∈ hy7 → HOk (cx (nuX (nu7 id_ aB9 aB6 es_z z body) (rX (ro7 id_ aB9 aB6 es_z z body) (fun _ => .bool true))) (aB3 (on7 id_ aB9 aB6 es_z z body)) 0 aB0 aA1) k r := by
    unfold hy7
    exact hc (kB0 rfl) <|hc (kRn (denX rfl)) <|hc (kRlG aD6 (isX rfl) (denX rfl) (by first | omega | (simp <;> omega))) <|hc (gtcF rfl (by omega)) <|hc (lnV rfl rfl (by omega)) <|hc (gtcF rfl (by omega)) <|hc (eqcT rfl (by omega)) <|hnil
  obtain ⟨fi, hfi, hb⟩ := fiE
  exact runPR (tb := (tbl hy7)) ((aD2 (nuX (nu7 id_ aB9 aB6 es_z z body) (rX (ro7 id_ aB9 aB6 es_z z body) (fun _ => .bool true))) (aB3 (on7 id_ aB9 aB6 es_z z body))).hyps ho) rfl hfi hb [.r 2000000 25 2 true] [⟨aB9, aB6, z.length, es_z⟩] (run7 ) (args := [.int .u8 id_, .slice (some ⟨aB9, aB6, none⟩) z.length es_z, St' body]) ⟨_, _, rfl, rfl, ⟨_, _, rfl, cP1 (by decide) rfl w_z.room, ⟨_, _, rfl, rfl, rfl⟩⟩⟩ w hl rfl (by decide) ((bD7 (w_z.arg (g_z ) rfl) bT5)) rfl
end Go.Proofs.Ytfoalkoifcpdmaa.framesBack
