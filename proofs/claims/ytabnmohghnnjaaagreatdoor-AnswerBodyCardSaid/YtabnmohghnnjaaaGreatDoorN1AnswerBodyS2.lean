/- A part of the proof: an interpreter of the model's own code on partly known states, and that what it answers is what the program answers. No condition of its own. -/
import Derived.Test.YtabnmohghnnjaaaGreatDoorN1AnswerBodyQ
set_option maxRecDepth 100000
set_option linter.unusedVariables false
set_option linter.unusedSimpArgs false
set_option maxHeartbeats 4000000
namespace Go.Proofs.YtabnmohghnnjaaaGreatDoor.answerBody
open Go Go.AX Go.Proofs Go.Proofs.YtabnmohghnnjaaaGreatDoor
def hy8 : LK := [(.len (.x 0), .x 1),
  (.bin .gtr (.x 1) (.i .i64 (.ofNat 1000)), .b true)]
theorem run8 (e1 : Nat) (e6 : Nat) : Go.AX.okB (call (tbl hy8) 30000 4 [.x 0, .es, .b false, .b false] ⟨H0 e1 e6 , 7, 0, 0⟩) = true := by kernel_rfl
noncomputable def nu8 (body : LB) (ad_at_ : Option Addr) (cp_at_ : Nat) : List Value := [St' body,
  .int .i64 ((body.length : Int))]
theorem one8 (body : LB) (ad_at_ : Option Addr) (cp_at_ : Nat) : ∀ j, j < 1000000 → (nuL (nu8 body ad_at_ cp_at_) j).oneCell' = true := fun j _ => nuL_one (l := nu8 body ad_at_ cp_at_) rfl j
theorem path8 (body : LB) (ad_at_ : Option Addr) (cp_at_ : Nat) (b0 : body.length ≤ 9223372036854775807) (h0 : 1000 < (body.length : Int)) (w : World) (hl : laidE w) : CwR 4 #[St' body, .slice ad_at_ 0 cp_at_, .bool false, .bool false] w (.bool true) := by
  have hn0 : ([] : LB).length = 0 := rfl; have hL6 : [u8 48, u8 13, u8 10, u8 13, u8 10].length = 5 := rfl
  have ho : ∀ k r, (k, r) ∈ hy8 → HOk (cx (nuL (nu8 body ad_at_ cp_at_)) (one8 body ad_at_ cp_at_) 7 laidE laidE_stab) k r := by
    unfold hy8
    exact hc (lnV rfl rfl (by omega)) <|
     hc (gtcT rfl (by omega)) <|
     hnil
  obtain ⟨fi, hfi, hb⟩ := fiE
  exact runP (tb := (tbl hy8)) ((tabkOk (nuL (nu8 body ad_at_ cp_at_)) (one8 body ad_at_ cp_at_)).hyps ho) rfl hfi hb (fun e1 e6 => run8 e1 e6 ) (args := [St' body, .slice ad_at_ 0 cp_at_, .bool false, .bool false]) (by simp only [RelL, Rel]; exact ⟨_, _, rfl, rfl, ⟨_, _, rfl, ⟨_, _, rfl⟩, ⟨_, _, rfl, rfl, ⟨_, _, rfl, rfl, rfl⟩⟩⟩⟩) w hl
def hy9 : LK := [(.len (.x 0), .x 1),
  (.bin .gtr (.x 1) (.i .i64 (.ofNat 1000)), .b true)]
theorem run9 (e1 : Nat) (e6 : Nat) : Go.AX.okB (call (tbl hy9) 30000 4 [.x 0, .es, .b false, .b true] ⟨H0 e1 e6 , 7, 0, 0⟩) = true := by kernel_rfl
noncomputable def nu9 (body : LB) (ad_at_ : Option Addr) (cp_at_ : Nat) : List Value := [St' body,
  .int .i64 ((body.length : Int))]
theorem one9 (body : LB) (ad_at_ : Option Addr) (cp_at_ : Nat) : ∀ j, j < 1000000 → (nuL (nu9 body ad_at_ cp_at_) j).oneCell' = true := fun j _ => nuL_one (l := nu9 body ad_at_ cp_at_) rfl j
theorem path9 (body : LB) (ad_at_ : Option Addr) (cp_at_ : Nat) (b0 : body.length ≤ 9223372036854775807) (h0 : 1000 < (body.length : Int)) (w : World) (hl : laidE w) : CwR 4 #[St' body, .slice ad_at_ 0 cp_at_, .bool false, .bool true] w (.bool true) := by
  have hn0 : ([] : LB).length = 0 := rfl; have hL6 : [u8 48, u8 13, u8 10, u8 13, u8 10].length = 5 := rfl
  have ho : ∀ k r, (k, r) ∈ hy9 → HOk (cx (nuL (nu9 body ad_at_ cp_at_)) (one9 body ad_at_ cp_at_) 7 laidE laidE_stab) k r := by
    unfold hy9
    exact hc (lnV rfl rfl (by omega)) <|
     hc (gtcT rfl (by omega)) <|
     hnil
  obtain ⟨fi, hfi, hb⟩ := fiE
  exact runP (tb := (tbl hy9)) ((tabkOk (nuL (nu9 body ad_at_ cp_at_)) (one9 body ad_at_ cp_at_)).hyps ho) rfl hfi hb (fun e1 e6 => run9 e1 e6 ) (args := [St' body, .slice ad_at_ 0 cp_at_, .bool false, .bool true]) (by simp only [RelL, Rel]; exact ⟨_, _, rfl, rfl, ⟨_, _, rfl, ⟨_, _, rfl⟩, ⟨_, _, rfl, rfl, ⟨_, _, rfl, rfl, rfl⟩⟩⟩⟩) w hl
def hy10 : LK := [(.len (.x 0), .x 1),
  (.bin .gtr (.x 1) (.i .i64 (.ofNat 1000)), .b true)]
theorem run10 (e1 : Nat) (e6 : Nat) : Go.AX.okB (call (tbl hy10) 30000 4 [.x 0, .es, .b true, .b false] ⟨H0 e1 e6 , 7, 0, 0⟩) = true := by kernel_rfl
noncomputable def nu10 (body : LB) (ad_at_ : Option Addr) (cp_at_ : Nat) : List Value := [St' body,
  .int .i64 ((body.length : Int))]
theorem one10 (body : LB) (ad_at_ : Option Addr) (cp_at_ : Nat) : ∀ j, j < 1000000 → (nuL (nu10 body ad_at_ cp_at_) j).oneCell' = true := fun j _ => nuL_one (l := nu10 body ad_at_ cp_at_) rfl j
theorem path10 (body : LB) (ad_at_ : Option Addr) (cp_at_ : Nat) (b0 : body.length ≤ 9223372036854775807) (h0 : 1000 < (body.length : Int)) (w : World) (hl : laidE w) : CwR 4 #[St' body, .slice ad_at_ 0 cp_at_, .bool true, .bool false] w (.bool true) := by
  have hn0 : ([] : LB).length = 0 := rfl; have hL6 : [u8 48, u8 13, u8 10, u8 13, u8 10].length = 5 := rfl
  have ho : ∀ k r, (k, r) ∈ hy10 → HOk (cx (nuL (nu10 body ad_at_ cp_at_)) (one10 body ad_at_ cp_at_) 7 laidE laidE_stab) k r := by
    unfold hy10
    exact hc (lnV rfl rfl (by omega)) <|
     hc (gtcT rfl (by omega)) <|
     hnil
  obtain ⟨fi, hfi, hb⟩ := fiE
  exact runP (tb := (tbl hy10)) ((tabkOk (nuL (nu10 body ad_at_ cp_at_)) (one10 body ad_at_ cp_at_)).hyps ho) rfl hfi hb (fun e1 e6 => run10 e1 e6 ) (args := [St' body, .slice ad_at_ 0 cp_at_, .bool true, .bool false]) (by simp only [RelL, Rel]; exact ⟨_, _, rfl, rfl, ⟨_, _, rfl, ⟨_, _, rfl⟩, ⟨_, _, rfl, rfl, ⟨_, _, rfl, rfl, rfl⟩⟩⟩⟩) w hl
def hy11 : LK := [(.len (.x 0), .x 1),
  (.bin .gtr (.x 1) (.i .i64 (.ofNat 1000)), .b true)]
theorem run11 (e1 : Nat) (e6 : Nat) : Go.AX.okB (call (tbl hy11) 30000 4 [.x 0, .es, .b true, .b true] ⟨H0 e1 e6 , 7, 0, 0⟩) = true := by kernel_rfl
noncomputable def nu11 (body : LB) (ad_at_ : Option Addr) (cp_at_ : Nat) : List Value := [St' body,
  .int .i64 ((body.length : Int))]
theorem one11 (body : LB) (ad_at_ : Option Addr) (cp_at_ : Nat) : ∀ j, j < 1000000 → (nuL (nu11 body ad_at_ cp_at_) j).oneCell' = true := fun j _ => nuL_one (l := nu11 body ad_at_ cp_at_) rfl j
theorem path11 (body : LB) (ad_at_ : Option Addr) (cp_at_ : Nat) (b0 : body.length ≤ 9223372036854775807) (h0 : 1000 < (body.length : Int)) (w : World) (hl : laidE w) : CwR 4 #[St' body, .slice ad_at_ 0 cp_at_, .bool true, .bool true] w (.bool true) := by
  have hn0 : ([] : LB).length = 0 := rfl; have hL6 : [u8 48, u8 13, u8 10, u8 13, u8 10].length = 5 := rfl
  have ho : ∀ k r, (k, r) ∈ hy11 → HOk (cx (nuL (nu11 body ad_at_ cp_at_)) (one11 body ad_at_ cp_at_) 7 laidE laidE_stab) k r := by
    unfold hy11
    exact hc (lnV rfl rfl (by omega)) <|
     hc (gtcT rfl (by omega)) <|
     hnil
  obtain ⟨fi, hfi, hb⟩ := fiE
  exact runP (tb := (tbl hy11)) ((tabkOk (nuL (nu11 body ad_at_ cp_at_)) (one11 body ad_at_ cp_at_)).hyps ho) rfl hfi hb (fun e1 e6 => run11 e1 e6 ) (args := [St' body, .slice ad_at_ 0 cp_at_, .bool true, .bool true]) (by simp only [RelL, Rel]; exact ⟨_, _, rfl, rfl, ⟨_, _, rfl, ⟨_, _, rfl⟩, ⟨_, _, rfl, rfl, ⟨_, _, rfl, rfl, rfl⟩⟩⟩⟩) w hl
end Go.Proofs.YtabnmohghnnjaaaGreatDoor.answerBody
