/- A part of the proof: an interpreter of the model's own code on partly known states, and that what it answers is what the program answers. No condition of its own. -/
import Derived.Test.YtamjghigoipbeaaDoorK1ChunkBackO5
set_option maxRecDepth 100000
set_option linter.unusedVariables false
set_option linter.unusedSimpArgs false
set_option maxHeartbeats 4000000
namespace Go.Proofs.YtamjghigoipbeaaDoor.chunkBack
open Go Go.AX Go.Proofs Go.Proofs.YtamjghigoipbeaaDoor
def hy9 : LK := [(.bytes [], .x 1),
  (.rn, .x 2000002),
  (.rl (.x 2000000) 1, .x 2),
  (.bin .gtr (.x 2) (.i .i64 (.ofNat 10)), .b true)]
theorem run9 : Go.AX.okB (call (tbl hy9) 9000 3 [.sr 4, .x 0, .sr 5] ⟨addR 4 [.r 2000000 9 1 true, .r 2000001 5 1 true] .leaf, 4 + List.length (α := Ent) [.r 2000000 9 1 true, .r 2000001 5 1 true], 0, 0⟩) = true := by kernel_rfl
def nu9 (blk_l : Nat) (base_l : Nat) (es_l : Nat) (l : List LB) (more : LB) (blk_at_ : Nat) (base_at_ : Nat) (es_at_ : Nat) (at_ : List Int) : List Value := [St' more,
  St' ([] : LB),
  .int .i64 ((l.length : Int))]
def ro9 (blk_l : Nat) (base_l : Nat) (es_l : Nat) (l : List LB) (more : LB) (blk_at_ : Nat) (base_at_ : Nat) (es_at_ : Nat) (at_ : List Int) : List Value := [rwS l,
  rwI .u8 at_,
  rwS ([] : List LB)]
theorem on9 (blk_l : Nat) (base_l : Nat) (es_l : Nat) (l : List LB) (more : LB) (blk_at_ : Nat) (base_at_ : Nat) (es_at_ : Nat) (at_ : List Int) : ∀ j, (nuL (nu9 blk_l base_l es_l l more blk_at_ base_at_ es_at_ at_) j).oneCell' = true := nuL_one (l := nu9 blk_l base_l es_l l more blk_at_ base_at_ es_at_ at_) rfl
theorem path9 (blk_l : Nat) (base_l : Nat) (es_l : Nat) (l : List LB) (more : LB) (blk_at_ : Nat) (base_at_ : Nat) (es_at_ : Nat) (at_ : List Int) (b0 : 1 ≤ l.length) (b1 : ∀ q, q ∈ l → q.length ≤ 140737488351232) (b2 : l.length ≤ 9223372036854775807) (b3 : more.length ≤ 9223372036854775807) (b4 : 1 ≤ at_.length) (b5 : ∀ n, n ∈ at_ → 0 ≤ n ∧ n ≤ 255) (b6 : at_.length ≤ 9223372036854775807) (h0 : 10 < (l.length : Int)) (w : World) (hl : laidE w) (w_l : InRow w 1 (l.map St') blk_l base_l l.length es_l) (w_at_ : InRow w 1 (at_.map (Value.int .u8)) blk_at_ base_at_ at_.length es_at_) : CwR 3 #[.slice (some ⟨blk_l, base_l, none⟩) l.length es_l, St' more, .slice (some ⟨blk_at_, base_at_, none⟩) at_.length es_at_] w (.bool true) := by
  have hn0 : ([] : LB).length = 0 := rfl; have hL6 : [u8 48, u8 13, u8 10, u8 13, u8 10].length = 5 := rfl
  have ho : ∀ k r, (k, r) ∈ hy9 → HOk (cx (nuX (nu9 blk_l base_l es_l l more blk_at_ base_at_ es_at_ at_) (rX (ro9 blk_l base_l es_l l more blk_at_ base_at_ es_at_ at_) (fun _ => .bool true))) (nuX_one (on9 blk_l base_l es_l l more blk_at_ base_at_ es_at_ at_)) 3 laidE laidE_stab) k r := by
    unfold hy9
    exact hc (kBytesB (bs := ([] : LB)) .nil (denX rfl)) <|
     hc (kRn (denX rfl)) <|
     hc (kRl (isX rfl) (denX rfl) (by first | omega | (simp <;> omega))) <|
     hc (gtcT rfl (by omega)) <|
     hnil
  obtain ⟨fi, hfi, hb⟩ := fiE
  exact runPL (tb := (tbl hy9)) ((tabkOk (nuX (nu9 blk_l base_l es_l l more blk_at_ base_at_ es_at_ at_) (rX (ro9 blk_l base_l es_l l more blk_at_ base_at_ es_at_ at_) (fun _ => .bool true))) (nuX_one (on9 blk_l base_l es_l l more blk_at_ base_at_ es_at_ at_))).hyps ho) rfl hfi hb [.r 2000000 9 1 true, .r 2000001 5 1 true] [⟨blk_l, base_l, l.length, es_l⟩, ⟨blk_at_, base_at_, at_.length, es_at_⟩] run9 (args := [.slice (some ⟨blk_l, base_l, none⟩) l.length es_l, St' more, .slice (some ⟨blk_at_, base_at_, none⟩) at_.length es_at_]) ⟨_, _, rfl, relSrN (by decide) rfl w_l.room, ⟨_, _, rfl, rfl, ⟨_, _, rfl, relSrN (by decide) rfl w_at_.room, rfl⟩⟩⟩ w hl rfl (by decide) (argsCons (w_l.arg (T.get_leaf _) rfl) (argsCons (w_at_.arg (T.get_leaf _) rfl) argsNil)) rfl
def hy10 : LK := [(.bytes [], .x 1),
  (.rn, .x 2000000),
  (.len (.x 0), .x 2),
  (.bin .gtr (.x 2) (.i .i64 (.ofNat 100)), .b true)]
theorem run10 (e2 : Nat) : Go.AX.okB (call (tbl hy10) 9000 3 [.es, .x 0, .es] ⟨H0 e2 , 4, 0, 0⟩) = true := by kernel_rfl
def nu10 (ad_l : Option Addr) (cp_l : Nat) (more : LB) (ad_at_ : Option Addr) (cp_at_ : Nat) : List Value := [St' more,
  St' ([] : LB),
  .int .i64 ((more.length : Int))]
def ro10 (ad_l : Option Addr) (cp_l : Nat) (more : LB) (ad_at_ : Option Addr) (cp_at_ : Nat) : List Value := [rwS ([] : List LB)]
theorem on10 (ad_l : Option Addr) (cp_l : Nat) (more : LB) (ad_at_ : Option Addr) (cp_at_ : Nat) : ∀ j, (nuL (nu10 ad_l cp_l more ad_at_ cp_at_) j).oneCell' = true := nuL_one (l := nu10 ad_l cp_l more ad_at_ cp_at_) rfl
theorem path10 (ad_l : Option Addr) (cp_l : Nat) (more : LB) (ad_at_ : Option Addr) (cp_at_ : Nat) (b0 : more.length ≤ 9223372036854775807) (h0 : 100 < (more.length : Int)) (w : World) (hl : laidE w) : CwR 3 #[.slice ad_l 0 cp_l, St' more, .slice ad_at_ 0 cp_at_] w (.bool true) := by
  have hn0 : ([] : LB).length = 0 := rfl; have hL6 : [u8 48, u8 13, u8 10, u8 13, u8 10].length = 5 := rfl
  have ho : ∀ k r, (k, r) ∈ hy10 → HOk (cx (nuX (nu10 ad_l cp_l more ad_at_ cp_at_) (rX (ro10 ad_l cp_l more ad_at_ cp_at_) (fun _ => .bool true))) (nuX_one (on10 ad_l cp_l more ad_at_ cp_at_)) 3 laidE laidE_stab) k r := by
    unfold hy10
    exact hc (kBytesB (bs := ([] : LB)) .nil (denX rfl)) <|
     hc (kRn (denX rfl)) <|
     hc (lnV rfl rfl (by omega)) <|
     hc (gtcT rfl (by omega)) <|
     hnil
  obtain ⟨fi, hfi, hb⟩ := fiE
  exact runP (tb := (tbl hy10)) ((tabkOk (nuX (nu10 ad_l cp_l more ad_at_ cp_at_) (rX (ro10 ad_l cp_l more ad_at_ cp_at_) (fun _ => .bool true))) (nuX_one (on10 ad_l cp_l more ad_at_ cp_at_))).hyps ho) rfl hfi hb (fun e2 => run10 e2 ) (args := [.slice ad_l 0 cp_l, St' more, .slice ad_at_ 0 cp_at_]) (by simp only [RelL, Rel]; exact ⟨_, _, rfl, ⟨_, _, rfl⟩, ⟨_, _, rfl, rfl, ⟨_, _, rfl, ⟨_, _, rfl⟩, rfl⟩⟩⟩) w hl
def hy11 : LK := [(.bytes [], .x 1),
  (.rn, .x 2000001),
  (.len (.x 0), .x 2),
  (.bin .gtr (.x 2) (.i .i64 (.ofNat 100)), .b true)]
theorem run11 : Go.AX.okB (call (tbl hy11) 9000 3 [.es, .x 0, .sr 5] ⟨addR 4 [.r 2000000 5 1 true, .r 2000000 5 1 true] .leaf, 4 + List.length (α := Ent) [.r 2000000 5 1 true, .r 2000000 5 1 true], 0, 0⟩) = true := by kernel_rfl
def nu11 (ad_l : Option Addr) (cp_l : Nat) (more : LB) (blk_at_ : Nat) (base_at_ : Nat) (es_at_ : Nat) (at_ : List Int) : List Value := [St' more,
  St' ([] : LB),
  .int .i64 ((more.length : Int))]
def ro11 (ad_l : Option Addr) (cp_l : Nat) (more : LB) (blk_at_ : Nat) (base_at_ : Nat) (es_at_ : Nat) (at_ : List Int) : List Value := [rwI .u8 at_,
  rwS ([] : List LB)]
theorem on11 (ad_l : Option Addr) (cp_l : Nat) (more : LB) (blk_at_ : Nat) (base_at_ : Nat) (es_at_ : Nat) (at_ : List Int) : ∀ j, (nuL (nu11 ad_l cp_l more blk_at_ base_at_ es_at_ at_) j).oneCell' = true := nuL_one (l := nu11 ad_l cp_l more blk_at_ base_at_ es_at_ at_) rfl
theorem path11 (ad_l : Option Addr) (cp_l : Nat) (more : LB) (blk_at_ : Nat) (base_at_ : Nat) (es_at_ : Nat) (at_ : List Int) (b0 : more.length ≤ 9223372036854775807) (b1 : 1 ≤ at_.length) (b2 : ∀ n, n ∈ at_ → 0 ≤ n ∧ n ≤ 255) (b3 : at_.length ≤ 9223372036854775807) (h0 : 100 < (more.length : Int)) (w : World) (hl : laidE w) (w_at_ : InRow w 1 (at_.map (Value.int .u8)) blk_at_ base_at_ at_.length es_at_) : CwR 3 #[.slice ad_l 0 cp_l, St' more, .slice (some ⟨blk_at_, base_at_, none⟩) at_.length es_at_] w (.bool true) := by
  have hn0 : ([] : LB).length = 0 := rfl; have hL6 : [u8 48, u8 13, u8 10, u8 13, u8 10].length = 5 := rfl
  have ho : ∀ k r, (k, r) ∈ hy11 → HOk (cx (nuX (nu11 ad_l cp_l more blk_at_ base_at_ es_at_ at_) (rX (ro11 ad_l cp_l more blk_at_ base_at_ es_at_ at_) (fun _ => .bool true))) (nuX_one (on11 ad_l cp_l more blk_at_ base_at_ es_at_ at_)) 3 laidE laidE_stab) k r := by
    unfold hy11
    exact hc (kBytesB (bs := ([] : LB)) .nil (denX rfl)) <|
     hc (kRn (denX rfl)) <|
     hc (lnV rfl rfl (by omega)) <|
     hc (gtcT rfl (by omega)) <|
     hnil
  obtain ⟨fi, hfi, hb⟩ := fiE
  exact runPL (tb := (tbl hy11)) ((tabkOk (nuX (nu11 ad_l cp_l more blk_at_ base_at_ es_at_ at_) (rX (ro11 ad_l cp_l more blk_at_ base_at_ es_at_ at_) (fun _ => .bool true))) (nuX_one (on11 ad_l cp_l more blk_at_ base_at_ es_at_ at_))).hyps ho) rfl hfi hb [.r 2000000 5 1 true, .r 2000000 5 1 true] [⟨blk_at_, base_at_, at_.length, es_at_⟩, ⟨blk_at_, base_at_, at_.length, es_at_⟩] run11 (args := [.slice ad_l 0 cp_l, St' more, .slice (some ⟨blk_at_, base_at_, none⟩) at_.length es_at_]) ⟨_, _, rfl, ⟨_, _, rfl⟩, ⟨_, _, rfl, rfl, ⟨_, _, rfl, relSrN (by decide) rfl w_at_.room, rfl⟩⟩⟩ w hl rfl (by decide) (argsCons (w_at_.arg (T.get_leaf _) rfl) (argsCons (w_at_.arg (T.get_leaf _) rfl) argsNil)) rfl
end Go.Proofs.YtamjghigoipbeaaDoor.chunkBack
