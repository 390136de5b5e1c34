/- A part of the proof: an interpreter of the model's own code on partly known states, and that what it answers is what the program answers. No condition of its own. -/
import Derived.Test.YtabnmohghnnjaaaGreatDoorN1AnswerBodyS0
import Derived.Test.YtabnmohghnnjaaaGreatDoorN1AnswerBodyS1
import Derived.Test.YtabnmohghnnjaaaGreatDoorN1AnswerBodyS2
import Derived.Test.YtabnmohghnnjaaaGreatDoorN1AnswerBodyS3
set_option maxRecDepth 100000
set_option linter.unusedVariables false
set_option linter.unusedSimpArgs false
set_option maxHeartbeats 4000000
namespace Go.Proofs.YtabnmohghnnjaaaGreatDoor.answerBody
open Go Go.AX Go.Proofs Go.Proofs.YtabnmohghnnjaaaGreatDoor
theorem walkEFF (body : LB) (ad_at_ : Option Addr) (cp_at_ : Nat) (b0 : body.length ≤ 9223372036854775807) (w : World) (hl : laidE w) : CwR 4 #[St' body, .slice ad_at_ 0 cp_at_, .bool false, .bool false] w (.bool true) := by
  by_cases h0 : 1000 < (body.length : Int)
  · exact path8 body ad_at_ cp_at_ b0 h0 w hl
  · exact path0 body ad_at_ cp_at_ b0 h0 w hl
theorem walkEFT (body : LB) (ad_at_ : Option Addr) (cp_at_ : Nat) (b0 : body.length ≤ 9223372036854775807) (w : World) (hl : laidE w) : CwR 4 #[St' body, .slice ad_at_ 0 cp_at_, .bool false, .bool true] w (.bool true) := by
  by_cases h0 : 1000 < (body.length : Int)
  · exact path9 body ad_at_ cp_at_ b0 h0 w hl
  · exact path1 body ad_at_ cp_at_ b0 h0 w hl
theorem walkETF (body : LB) (ad_at_ : Option Addr) (cp_at_ : Nat) (b0 : body.length ≤ 9223372036854775807) (w : World) (hl : laidE w) : CwR 4 #[St' body, .slice ad_at_ 0 cp_at_, .bool true, .bool false] w (.bool true) := by
  by_cases h0 : 1000 < (body.length : Int)
  · exact path10 body ad_at_ cp_at_ b0 h0 w hl
  · exact path2 body ad_at_ cp_at_ b0 h0 w hl
theorem walkETT (body : LB) (ad_at_ : Option Addr) (cp_at_ : Nat) (b0 : body.length ≤ 9223372036854775807) (w : World) (hl : laidE w) : CwR 4 #[St' body, .slice ad_at_ 0 cp_at_, .bool true, .bool true] w (.bool true) := by
  by_cases h0 : 1000 < (body.length : Int)
  · exact path11 body ad_at_ cp_at_ b0 h0 w hl
  · exact path3 body ad_at_ cp_at_ b0 h0 w hl
theorem walkRFF (body : LB) (blk_at_ : Nat) (base_at_ : Nat) (es_at_ : Nat) (at_ : List Int) (b0 : body.length ≤ 9223372036854775807) (b1 : 1 ≤ at_.length) (b2 : ∀ n, n ∈ at_ → 0 ≤ n ∧ n ≤ 255) (b3 : at_.length ≤ 9223372036854775807) (w : World) (hl : laidE w) (w_at_ : InRow w 1 (at_.map (Value.int .u8)) blk_at_ base_at_ at_.length es_at_) : CwR 4 #[St' body, .slice (some ⟨blk_at_, base_at_, none⟩) at_.length es_at_, .bool false, .bool false] w (.bool true) := by
  by_cases h0 : 1000 < (body.length : Int)
  · exact path12 body blk_at_ base_at_ es_at_ at_ b0 b1 b2 b3 h0 w hl w_at_
  · exact path4 body blk_at_ base_at_ es_at_ at_ b0 b1 b2 b3 h0 w hl w_at_
theorem walkRFT (body : LB) (blk_at_ : Nat) (base_at_ : Nat) (es_at_ : Nat) (at_ : List Int) (b0 : body.length ≤ 9223372036854775807) (b1 : 1 ≤ at_.length) (b2 : ∀ n, n ∈ at_ → 0 ≤ n ∧ n ≤ 255) (b3 : at_.length ≤ 9223372036854775807) (w : World) (hl : laidE w) (w_at_ : InRow w 1 (at_.map (Value.int .u8)) blk_at_ base_at_ at_.length es_at_) : CwR 4 #[St' body, .slice (some ⟨blk_at_, base_at_, none⟩) at_.length es_at_, .bool false, .bool true] w (.bool true) := by
  by_cases h0 : 1000 < (body.length : Int)
  · exact path13 body blk_at_ base_at_ es_at_ at_ b0 b1 b2 b3 h0 w hl w_at_
  · exact path5 body blk_at_ base_at_ es_at_ at_ b0 b1 b2 b3 h0 w hl w_at_
theorem walkRTF (body : LB) (blk_at_ : Nat) (base_at_ : Nat) (es_at_ : Nat) (at_ : List Int) (b0 : body.length ≤ 9223372036854775807) (b1 : 1 ≤ at_.length) (b2 : ∀ n, n ∈ at_ → 0 ≤ n ∧ n ≤ 255) (b3 : at_.length ≤ 9223372036854775807) (w : World) (hl : laidE w) (w_at_ : InRow w 1 (at_.map (Value.int .u8)) blk_at_ base_at_ at_.length es_at_) : CwR 4 #[St' body, .slice (some ⟨blk_at_, base_at_, none⟩) at_.length es_at_, .bool true, .bool false] w (.bool true) := by
  by_cases h0 : 1000 < (body.length : Int)
  · exact path14 body blk_at_ base_at_ es_at_ at_ b0 b1 b2 b3 h0 w hl w_at_
  · exact path6 body blk_at_ base_at_ es_at_ at_ b0 b1 b2 b3 h0 w hl w_at_
theorem walkRTT (body : LB) (blk_at_ : Nat) (base_at_ : Nat) (es_at_ : Nat) (at_ : List Int) (b0 : body.length ≤ 9223372036854775807) (b1 : 1 ≤ at_.length) (b2 : ∀ n, n ∈ at_ → 0 ≤ n ∧ n ≤ 255) (b3 : at_.length ≤ 9223372036854775807) (w : World) (hl : laidE w) (w_at_ : InRow w 1 (at_.map (Value.int .u8)) blk_at_ base_at_ at_.length es_at_) : CwR 4 #[St' body, .slice (some ⟨blk_at_, base_at_, none⟩) at_.length es_at_, .bool true, .bool true] w (.bool true) := by
  by_cases h0 : 1000 < (body.length : Int)
  · exact path15 body blk_at_ base_at_ es_at_ at_ b0 b1 b2 b3 h0 w hl w_at_
  · exact path7 body blk_at_ base_at_ es_at_ at_ b0 b1 b2 b3 h0 w hl w_at_
end Go.Proofs.YtabnmohghnnjaaaGreatDoor.answerBody
