/- A part of the proof: an interpreter of the model's own code on partly known states, and that what it answers is what the program answers. No condition of its own. -/
import Derived.Test.YtabnmohghnnjaaaGreatDoorN1AnswerBodyQ
set_option maxRecDepth 100000
set_option linter.unusedVariables false
set_option linter.unusedSimpArgs false
set_option maxHeartbeats 4000000
namespace Go.Proofs.YtabnmohghnnjaaaGreatDoor.answerBody
open Go Go.AX Go.Proofs Go.Proofs.YtabnmohghnnjaaaGreatDoor
def hy12 : LK := [(.len (.x 0), .x 1),
  (.bin .gtr (.x 1) (.i .i64 (.ofNat 1000)), .b true)]
theorem run12 : Go.AX.okB (call (tbl hy12) 30000 4 [.x 0, .sr 7, .b false, .b false] ⟨addR 7 [.r 2000000 5 1 true] .leaf, 7 + List.length (α := Ent) [.r 2000000 5 1 true], 0, 0⟩) = true := by kernel_rfl
noncomputable def nu12 (body : LB) (blk_at_ : Nat) (base_at_ : Nat) (es_at_ : Nat) (at_ : List Int) : List Value := [St' body,
  .int .i64 ((body.length : Int))]
def ro12 (body : LB) (blk_at_ : Nat) (base_at_ : Nat) (es_at_ : Nat) (at_ : List Int) : List Value := [rwI .u8 at_]
theorem on12 (body : LB) (blk_at_ : Nat) (base_at_ : Nat) (es_at_ : Nat) (at_ : List Int) : ∀ j, (nuL (nu12 body blk_at_ base_at_ es_at_ at_) j).oneCell' = true := nuL_one (l := nu12 body blk_at_ base_at_ es_at_ at_) rfl
theorem path12 (body : LB) (blk_at_ : Nat) (base_at_ : Nat) (es_at_ : Nat) (at_ : List Int) (b0 : body.length ≤ 9223372036854775807) (b1 : 1 ≤ at_.length) (b2 : ∀ n, n ∈ at_ → 0 ≤ n ∧ n ≤ 255) (b3 : at_.length ≤ 9223372036854775807) (h0 : 1000 < (body.length : Int)) (w : World) (hl : laidE w) (w_at_ : InRow w 1 (at_.map (Value.int .u8)) blk_at_ base_at_ at_.length es_at_) : CwR 4 #[St' body, .slice (some ⟨blk_at_, base_at_, none⟩) at_.length es_at_, .bool false, .bool false] w (.bool true) := by
  have hn0 : ([] : LB).length = 0 := rfl; have hL6 : [u8 48, u8 13, u8 10, u8 13, u8 10].length = 5 := rfl
  have ho : ∀ k r, (k, r) ∈ hy12 → HOk (cx (nuX (nu12 body blk_at_ base_at_ es_at_ at_) (rX (ro12 body blk_at_ base_at_ es_at_ at_) (fun _ => .bool true))) (nuX_one (on12 body blk_at_ base_at_ es_at_ at_)) 7 laidE laidE_stab) k r := by
    unfold hy12
    exact hc (lnV rfl rfl (by omega)) <|
     hc (gtcT rfl (by omega)) <|
     hnil
  obtain ⟨fi, hfi, hb⟩ := fiE
  exact runPL (tb := (tbl hy12)) ((tabkOk (nuX (nu12 body blk_at_ base_at_ es_at_ at_) (rX (ro12 body blk_at_ base_at_ es_at_ at_) (fun _ => .bool true))) (nuX_one (on12 body blk_at_ base_at_ es_at_ at_))).hyps ho) rfl hfi hb [.r 2000000 5 1 true] [⟨blk_at_, base_at_, at_.length, es_at_⟩] run12 (args := [St' body, .slice (some ⟨blk_at_, base_at_, none⟩) at_.length es_at_, .bool false, .bool false]) ⟨_, _, rfl, rfl, ⟨_, _, rfl, relSrN (by decide) rfl w_at_.room, ⟨_, _, rfl, rfl, ⟨_, _, rfl, rfl, rfl⟩⟩⟩⟩ w hl rfl (by decide) (argsCons (w_at_.arg (T.get_leaf _) rfl) argsNil) rfl
def hy13 : LK := [(.len (.x 0), .x 1),
  (.bin .gtr (.x 1) (.i .i64 (.ofNat 1000)), .b true)]
theorem run13 : Go.AX.okB (call (tbl hy13) 30000 4 [.x 0, .sr 7, .b false, .b true] ⟨addR 7 [.r 2000000 5 1 true] .leaf, 7 + List.length (α := Ent) [.r 2000000 5 1 true], 0, 0⟩) = true := by kernel_rfl
noncomputable def nu13 (body : LB) (blk_at_ : Nat) (base_at_ : Nat) (es_at_ : Nat) (at_ : List Int) : List Value := [St' body,
  .int .i64 ((body.length : Int))]
def ro13 (body : LB) (blk_at_ : Nat) (base_at_ : Nat) (es_at_ : Nat) (at_ : List Int) : List Value := [rwI .u8 at_]
theorem on13 (body : LB) (blk_at_ : Nat) (base_at_ : Nat) (es_at_ : Nat) (at_ : List Int) : ∀ j, (nuL (nu13 body blk_at_ base_at_ es_at_ at_) j).oneCell' = true := nuL_one (l := nu13 body blk_at_ base_at_ es_at_ at_) rfl
theorem path13 (body : LB) (blk_at_ : Nat) (base_at_ : Nat) (es_at_ : Nat) (at_ : List Int) (b0 : body.length ≤ 9223372036854775807) (b1 : 1 ≤ at_.length) (b2 : ∀ n, n ∈ at_ → 0 ≤ n ∧ n ≤ 255) (b3 : at_.length ≤ 9223372036854775807) (h0 : 1000 < (body.length : Int)) (w : World) (hl : laidE w) (w_at_ : InRow w 1 (at_.map (Value.int .u8)) blk_at_ base_at_ at_.length es_at_) : CwR 4 #[St' body, .slice (some ⟨blk_at_, base_at_, none⟩) at_.length es_at_, .bool false, .bool true] w (.bool true) := by
  have hn0 : ([] : LB).length = 0 := rfl; have hL6 : [u8 48, u8 13, u8 10, u8 13, u8 10].length = 5 := rfl
  have ho : ∀ k r, (k, r) ∈ hy13 → HOk (cx (nuX (nu13 body blk_at_ base_at_ es_at_ at_) (rX (ro13 body blk_at_ base_at_ es_at_ at_) (fun _ => .bool true))) (nuX_one (on13 body blk_at_ base_at_ es_at_ at_)) 7 laidE laidE_stab) k r := by
    unfold hy13
    exact hc (lnV rfl rfl (by omega)) <|
     hc (gtcT rfl (by omega)) <|
     hnil
  obtain ⟨fi, hfi, hb⟩ := fiE
  exact runPL (tb := (tbl hy13)) ((tabkOk (nuX (nu13 body blk_at_ base_at_ es_at_ at_) (rX (ro13 body blk_at_ base_at_ es_at_ at_) (fun _ => .bool true))) (nuX_one (on13 body blk_at_ base_at_ es_at_ at_))).hyps ho) rfl hfi hb [.r 2000000 5 1 true] [⟨blk_at_, base_at_, at_.length, es_at_⟩] run13 (args := [St' body, .slice (some ⟨blk_at_, base_at_, none⟩) at_.length es_at_, .bool false, .bool true]) ⟨_, _, rfl, rfl, ⟨_, _, rfl, relSrN (by decide) rfl w_at_.room, ⟨_, _, rfl, rfl, ⟨_, _, rfl, rfl, rfl⟩⟩⟩⟩ w hl rfl (by decide) (argsCons (w_at_.arg (T.get_leaf _) rfl) argsNil) rfl
def hy14 : LK := [(.len (.x 0), .x 1),
  (.bin .gtr (.x 1) (.i .i64 (.ofNat 1000)), .b true)]
theorem run14 : Go.AX.okB (call (tbl hy14) 30000 4 [.x 0, .sr 7, .b true, .b false] ⟨addR 7 [.r 2000000 5 1 true] .leaf, 7 + List.length (α := Ent) [.r 2000000 5 1 true], 0, 0⟩) = true := by kernel_rfl
noncomputable def nu14 (body : LB) (blk_at_ : Nat) (base_at_ : Nat) (es_at_ : Nat) (at_ : List Int) : List Value := [St' body,
  .int .i64 ((body.length : Int))]
def ro14 (body : LB) (blk_at_ : Nat) (base_at_ : Nat) (es_at_ : Nat) (at_ : List Int) : List Value := [rwI .u8 at_]
theorem on14 (body : LB) (blk_at_ : Nat) (base_at_ : Nat) (es_at_ : Nat) (at_ : List Int) : ∀ j, (nuL (nu14 body blk_at_ base_at_ es_at_ at_) j).oneCell' = true := nuL_one (l := nu14 body blk_at_ base_at_ es_at_ at_) rfl
theorem path14 (body : LB) (blk_at_ : Nat) (base_at_ : Nat) (es_at_ : Nat) (at_ : List Int) (b0 : body.length ≤ 9223372036854775807) (b1 : 1 ≤ at_.length) (b2 : ∀ n, n ∈ at_ → 0 ≤ n ∧ n ≤ 255) (b3 : at_.length ≤ 9223372036854775807) (h0 : 1000 < (body.length : Int)) (w : World) (hl : laidE w) (w_at_ : InRow w 1 (at_.map (Value.int .u8)) blk_at_ base_at_ at_.length es_at_) : CwR 4 #[St' body, .slice (some ⟨blk_at_, base_at_, none⟩) at_.length es_at_, .bool true, .bool false] w (.bool true) := by
  have hn0 : ([] : LB).length = 0 := rfl; have hL6 : [u8 48, u8 13, u8 10, u8 13, u8 10].length = 5 := rfl
  have ho : ∀ k r, (k, r) ∈ hy14 → HOk (cx (nuX (nu14 body blk_at_ base_at_ es_at_ at_) (rX (ro14 body blk_at_ base_at_ es_at_ at_) (fun _ => .bool true))) (nuX_one (on14 body blk_at_ base_at_ es_at_ at_)) 7 laidE laidE_stab) k r := by
    unfold hy14
    exact hc (lnV rfl rfl (by omega)) <|
     hc (gtcT rfl (by omega)) <|
     hnil
  obtain ⟨fi, hfi, hb⟩ := fiE
  exact runPL (tb := (tbl hy14)) ((tabkOk (nuX (nu14 body blk_at_ base_at_ es_at_ at_) (rX (ro14 body blk_at_ base_at_ es_at_ at_) (fun _ => .bool true))) (nuX_one (on14 body blk_at_ base_at_ es_at_ at_))).hyps ho) rfl hfi hb [.r 2000000 5 1 true] [⟨blk_at_, base_at_, at_.length, es_at_⟩] run14 (args := [St' body, .slice (some ⟨blk_at_, base_at_, none⟩) at_.length es_at_, .bool true, .bool false]) ⟨_, _, rfl, rfl, ⟨_, _, rfl, relSrN (by decide) rfl w_at_.room, ⟨_, _, rfl, rfl, ⟨_, _, rfl, rfl, rfl⟩⟩⟩⟩ w hl rfl (by decide) (argsCons (w_at_.arg (T.get_leaf _) rfl) argsNil) rfl
def hy15 : LK := [(.len (.x 0), .x 1),
  (.bin .gtr (.x 1) (.i .i64 (.ofNat 1000)), .b true)]
theorem run15 : Go.AX.okB (call (tbl hy15) 30000 4 [.x 0, .sr 7, .b true, .b true] ⟨addR 7 [.r 2000000 5 1 true] .leaf, 7 + List.length (α := Ent) [.r 2000000 5 1 true], 0, 0⟩) = true := by kernel_rfl
noncomputable def nu15 (body : LB) (blk_at_ : Nat) (base_at_ : Nat) (es_at_ : Nat) (at_ : List Int) : List Value := [St' body,
  .int .i64 ((body.length : Int))]
def ro15 (body : LB) (blk_at_ : Nat) (base_at_ : Nat) (es_at_ : Nat) (at_ : List Int) : List Value := [rwI .u8 at_]
theorem on15 (body : LB) (blk_at_ : Nat) (base_at_ : Nat) (es_at_ : Nat) (at_ : List Int) : ∀ j, (nuL (nu15 body blk_at_ base_at_ es_at_ at_) j).oneCell' = true := nuL_one (l := nu15 body blk_at_ base_at_ es_at_ at_) rfl
theorem path15 (body : LB) (blk_at_ : Nat) (base_at_ : Nat) (es_at_ : Nat) (at_ : List Int) (b0 : body.length ≤ 9223372036854775807) (b1 : 1 ≤ at_.length) (b2 : ∀ n, n ∈ at_ → 0 ≤ n ∧ n ≤ 255) (b3 : at_.length ≤ 9223372036854775807) (h0 : 1000 < (body.length : Int)) (w : World) (hl : laidE w) (w_at_ : InRow w 1 (at_.map (Value.int .u8)) blk_at_ base_at_ at_.length es_at_) : CwR 4 #[St' body, .slice (some ⟨blk_at_, base_at_, none⟩) at_.length es_at_, .bool true, .bool true] w (.bool true) := by
  have hn0 : ([] : LB).length = 0 := rfl; have hL6 : [u8 48, u8 13, u8 10, u8 13, u8 10].length = 5 := rfl
  have ho : ∀ k r, (k, r) ∈ hy15 → HOk (cx (nuX (nu15 body blk_at_ base_at_ es_at_ at_) (rX (ro15 body blk_at_ base_at_ es_at_ at_) (fun _ => .bool true))) (nuX_one (on15 body blk_at_ base_at_ es_at_ at_)) 7 laidE laidE_stab) k r := by
    unfold hy15
    exact hc (lnV rfl rfl (by omega)) <|
     hc (gtcT rfl (by omega)) <|
     hnil
  obtain ⟨fi, hfi, hb⟩ := fiE
  exact runPL (tb := (tbl hy15)) ((tabkOk (nuX (nu15 body blk_at_ base_at_ es_at_ at_) (rX (ro15 body blk_at_ base_at_ es_at_ at_) (fun _ => .bool true))) (nuX_one (on15 body blk_at_ base_at_ es_at_ at_))).hyps ho) rfl hfi hb [.r 2000000 5 1 true] [⟨blk_at_, base_at_, at_.length, es_at_⟩] run15 (args := [St' body, .slice (some ⟨blk_at_, base_at_, none⟩) at_.length es_at_, .bool true, .bool true]) ⟨_, _, rfl, rfl, ⟨_, _, rfl, relSrN (by decide) rfl w_at_.room, ⟨_, _, rfl, rfl, ⟨_, _, rfl, rfl, rfl⟩⟩⟩⟩ w hl rfl (by decide) (argsCons (w_at_.arg (T.get_leaf _) rfl) argsNil) rfl
end Go.Proofs.YtabnmohghnnjaaaGreatDoor.answerBody
