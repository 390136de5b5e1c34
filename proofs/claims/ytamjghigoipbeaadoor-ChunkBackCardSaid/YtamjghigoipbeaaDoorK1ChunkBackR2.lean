/- A part of the proof: an interpreter of the model's own code on partly known states, and that what it answers is what the program answers. No condition of its own. -/
import Derived.Test.YtamjghigoipbeaaDoorK1ChunkBackO5
set_option maxRecDepth 100000
set_option linter.unusedVariables false
set_option linter.unusedSimpArgs false
set_option maxHeartbeats 4000000
namespace Go.Proofs.YtamjghigoipbeaaDoor.chunkBack
open Go Go.AX Go.Proofs Go.Proofs.YtamjghigoipbeaaDoor
def hy6 : LK := [(.bytes [], .x 1),
  (.rn, .x 2000001),
  (.rl (.x 2000000) 1, .x 2),
  (.bin .gtr (.x 2) (.i .i64 (.ofNat 10)), .b false),
  (.len (.x 0), .x 3),
  (.bin .gtr (.x 3) (.i .i64 (.ofNat 100)), .b false)]
def lh955 : LH := ⟨4, 20, 30, [(4, .r 2000000 9 1 true)], []⟩
def lf955 : LF := ⟨7, 117, [(0, .sr 4), (7, .s 0 0), (8, .s 0 0), (9, .i .i64 (.ofNat 0))], [1, 2], .ret, [(6, .b true)], some lh955⟩
noncomputable def tab6 : Tab := addLps ({ tabk with hyp := hy6 }) 3 fi3 [lf955]
theorem run6 : Go.AX.okB (call tab6 9000 3 [.sr 4, .x 0, .es] ⟨addR 4 [.r 2000000 9 1 true] .leaf, 4 + List.length (α := Ent) [.r 2000000 9 1 true], 0, 0⟩) = true := by kernel_rfl
def nu6 (blk_l : Nat) (base_l : Nat) (es_l : Nat) (l : List LB) (more : LB) (ad_at_ : Option Addr) (cp_at_ : Nat) : List Value := [St' more,
  St' ([] : LB),
  .int .i64 ((l.length : Int)),
  .int .i64 ((more.length : Int))]
def ro6 (blk_l : Nat) (base_l : Nat) (es_l : Nat) (l : List LB) (more : LB) (ad_at_ : Option Addr) (cp_at_ : Nat) : List Value := [rwS l,
  rwS ([] : List LB)]
theorem on6 (blk_l : Nat) (base_l : Nat) (es_l : Nat) (l : List LB) (more : LB) (ad_at_ : Option Addr) (cp_at_ : Nat) : ∀ j, (nuL (nu6 blk_l base_l es_l l more ad_at_ cp_at_) j).oneCell' = true := nuL_one (l := nu6 blk_l base_l es_l l more ad_at_ cp_at_) rfl
theorem path6 (blk_l : Nat) (base_l : Nat) (es_l : Nat) (l : List LB) (more : LB) (ad_at_ : Option Addr) (cp_at_ : Nat) (b0 : 1 ≤ l.length) (b1 : ∀ q, q ∈ l → q.length ≤ 140737488351232) (b2 : l.length ≤ 9223372036854775807) (b3 : more.length ≤ 9223372036854775807) (h0 : ¬ (10 < (l.length : Int))) (h1 : ¬ (100 < (more.length : Int))) (h2 : ¬ (ok3 l)) (w : World) (hl : laidE w) (w_l : InRow w 1 (l.map St') blk_l base_l l.length es_l) : CwR 3 #[.slice (some ⟨blk_l, base_l, none⟩) l.length es_l, St' more, .slice ad_at_ 0 cp_at_] w (.bool true) := by
  have hn0 : ([] : LB).length = 0 := rfl; have hL6 : [u8 48, u8 13, u8 10, u8 13, u8 10].length = 5 := rfl
  have hFL : (List.flatMap wrS l ++ [u8 48, u8 13, u8 10, u8 13, u8 10]).length = (List.flatMap wrS l).length + 5 := by rw [List.length_append]; rfl
  have ho : ∀ k r, (k, r) ∈ hy6 → HOk (cx (nuX (nu6 blk_l base_l es_l l more ad_at_ cp_at_) (rX (ro6 blk_l base_l es_l l more ad_at_ cp_at_) (fun _ => .bool true))) (nuX_one (on6 blk_l base_l es_l l more ad_at_ cp_at_)) 3 laidE laidE_stab) k r := by
    unfold hy6
    exact hc (kBytesB (bs := ([] : LB)) .nil (denX rfl)) <|
     hc (kRn (denX rfl)) <|
     hc (kRl (isX rfl) (denX rfl) (by first | omega | (simp <;> omega))) <|
     hc (gtcF rfl (by omega)) <|
     hc (lnV rfl rfl (by omega)) <|
     hc (gtcF rfl (by omega)) <|
     hnil
  exact runPL (tb := tab6) (AllOk.lp1 ((tabkOk (nuX (nu6 blk_l base_l es_l l more ad_at_ cp_at_) (rX (ro6 blk_l base_l es_l l more ad_at_ cp_at_) (fun _ => .bool true))) (nuX_one (on6 blk_l base_l es_l l more ad_at_ cp_at_))).hyps ho) (by omega) fi3_at fi3_body (lfCons (lpKnown rfl ⟨0, keyLw, lfOkLw_1 (l := lf955) (h := lh955) l (by assumption) (0, (0 : Int), [], []) (mkILw l 0 (0 : Int) [] [] ⟨by omega, by omega, by omega, by assumption, rfl, rfl, (fun q hq => nomatch hq), by simp, by simp, by omega⟩) rfl (by kernel_rfl) (th0 := [(0, .s 0 0), (1, .s 0 0), (2, .i .i64 (.ofNat 0)), (2000000, .x 2000000)]) (sg0 := []) (fun X => thCons (show Is _ (.s 0 0) (St' []) from isTo (v := St' ([] : LB)) (isSx (l := ([] : LB)) 0 0 rfl) (by first | rfl | (simp; done))) (thCons (show Is _ (.s 0 0) (St' []) from isTo (v := St' ([] : LB)) (isSx (l := ([] : LB)) 0 0 rfl) (by first | rfl | (simp; done))) (thCons (show Is _ (.i .i64 (.ofNat 0)) (.int .i64 ((0 : Int))) from isTo (v := .int .i64 0) (isI _ _) (by first | rfl | (congr 1; omega))) (thXv (v := rwS l) rfl rfl (thNil))))) (by kernel_rfl) (thx := []) (thNil) (by kernel_rfl)⟩) lfNil)) rfl (get_lps (by omega)) fiB3 [.r 2000000 9 1 true] [⟨blk_l, base_l, l.length, es_l⟩] run6 (args := [.slice (some ⟨blk_l, base_l, none⟩) l.length es_l, St' more, .slice ad_at_ 0 cp_at_]) ⟨_, _, rfl, relSrN (by decide) rfl w_l.room, ⟨_, _, rfl, rfl, ⟨_, _, rfl, ⟨_, _, rfl⟩, rfl⟩⟩⟩ w hl rfl (by decide) (argsCons (w_l.arg (T.get_leaf _) rfl) argsNil) rfl
def hy7 : LK := [(.bytes [], .x 1),
  (.rn, .x 2000002),
  (.rl (.x 2000000) 1, .x 2),
  (.bin .gtr (.x 2) (.i .i64 (.ofNat 10)), .b false),
  (.len (.x 0), .x 3),
  (.bin .gtr (.x 3) (.i .i64 (.ofNat 100)), .b false)]
def lh956 : LH := ⟨4, 20, 30, [(4, .r 2000000 9 1 true)], []⟩
def lf956 : LF := ⟨7, 117, [(0, .sr 4), (7, .s 0 0), (8, .s 0 0), (9, .i .i64 (.ofNat 0))], [1, 2], .ret, [(6, .b true)], some lh956⟩
noncomputable def tab7 : Tab := addLps ({ tabk with hyp := hy7 }) 3 fi3 [lf956]
theorem run7 : Go.AX.okB (call tab7 9000 3 [.sr 4, .x 0, .sr 5] ⟨addR 4 [.r 2000000 9 1 true, .r 2000001 5 1 true] .leaf, 4 + List.length (α := Ent) [.r 2000000 9 1 true, .r 2000001 5 1 true], 0, 0⟩) = true := by kernel_rfl
def nu7 (blk_l : Nat) (base_l : Nat) (es_l : Nat) (l : List LB) (more : LB) (blk_at_ : Nat) (base_at_ : Nat) (es_at_ : Nat) (at_ : List Int) : List Value := [St' more,
  St' ([] : LB),
  .int .i64 ((l.length : Int)),
  .int .i64 ((more.length : Int))]
def ro7 (blk_l : Nat) (base_l : Nat) (es_l : Nat) (l : List LB) (more : LB) (blk_at_ : Nat) (base_at_ : Nat) (es_at_ : Nat) (at_ : List Int) : List Value := [rwS l,
  rwI .u8 at_,
  rwS ([] : List LB)]
theorem on7 (blk_l : Nat) (base_l : Nat) (es_l : Nat) (l : List LB) (more : LB) (blk_at_ : Nat) (base_at_ : Nat) (es_at_ : Nat) (at_ : List Int) : ∀ j, (nuL (nu7 blk_l base_l es_l l more blk_at_ base_at_ es_at_ at_) j).oneCell' = true := nuL_one (l := nu7 blk_l base_l es_l l more blk_at_ base_at_ es_at_ at_) rfl
theorem path7 (blk_l : Nat) (base_l : Nat) (es_l : Nat) (l : List LB) (more : LB) (blk_at_ : Nat) (base_at_ : Nat) (es_at_ : Nat) (at_ : List Int) (b0 : 1 ≤ l.length) (b1 : ∀ q, q ∈ l → q.length ≤ 140737488351232) (b2 : l.length ≤ 9223372036854775807) (b3 : more.length ≤ 9223372036854775807) (b4 : 1 ≤ at_.length) (b5 : ∀ n, n ∈ at_ → 0 ≤ n ∧ n ≤ 255) (b6 : at_.length ≤ 9223372036854775807) (h0 : ¬ (10 < (l.length : Int))) (h1 : ¬ (100 < (more.length : Int))) (h2 : ¬ (ok3 l)) (w : World) (hl : laidE w) (w_l : InRow w 1 (l.map St') blk_l base_l l.length es_l) (w_at_ : InRow w 1 (at_.map (Value.int .u8)) blk_at_ base_at_ at_.length es_at_) : CwR 3 #[.slice (some ⟨blk_l, base_l, none⟩) l.length es_l, St' more, .slice (some ⟨blk_at_, base_at_, none⟩) at_.length es_at_] w (.bool true) := by
  have hn0 : ([] : LB).length = 0 := rfl; have hL6 : [u8 48, u8 13, u8 10, u8 13, u8 10].length = 5 := rfl
  have hFL : (List.flatMap wrS l ++ [u8 48, u8 13, u8 10, u8 13, u8 10]).length = (List.flatMap wrS l).length + 5 := by rw [List.length_append]; rfl
  have ho : ∀ k r, (k, r) ∈ hy7 → HOk (cx (nuX (nu7 blk_l base_l es_l l more blk_at_ base_at_ es_at_ at_) (rX (ro7 blk_l base_l es_l l more blk_at_ base_at_ es_at_ at_) (fun _ => .bool true))) (nuX_one (on7 blk_l base_l es_l l more blk_at_ base_at_ es_at_ at_)) 3 laidE laidE_stab) k r := by
    unfold hy7
    exact hc (kBytesB (bs := ([] : LB)) .nil (denX rfl)) <|
     hc (kRn (denX rfl)) <|
     hc (kRl (isX rfl) (denX rfl) (by first | omega | (simp <;> omega))) <|
     hc (gtcF rfl (by omega)) <|
     hc (lnV rfl rfl (by omega)) <|
     hc (gtcF rfl (by omega)) <|
     hnil
  exact runPL (tb := tab7) (AllOk.lp1 ((tabkOk (nuX (nu7 blk_l base_l es_l l more blk_at_ base_at_ es_at_ at_) (rX (ro7 blk_l base_l es_l l more blk_at_ base_at_ es_at_ at_) (fun _ => .bool true))) (nuX_one (on7 blk_l base_l es_l l more blk_at_ base_at_ es_at_ at_))).hyps ho) (by omega) fi3_at fi3_body (lfCons (lpKnown rfl ⟨0, keyLw, lfOkLw_1 (l := lf956) (h := lh956) l (by assumption) (0, (0 : Int), [], []) (mkILw l 0 (0 : Int) [] [] ⟨by omega, by omega, by omega, by assumption, rfl, rfl, (fun q hq => nomatch hq), by simp, by simp, by omega⟩) rfl (by kernel_rfl) (th0 := [(0, .s 0 0), (1, .s 0 0), (2, .i .i64 (.ofNat 0)), (2000000, .x 2000000)]) (sg0 := []) (fun X => thCons (show Is _ (.s 0 0) (St' []) from isTo (v := St' ([] : LB)) (isSx (l := ([] : LB)) 0 0 rfl) (by first | rfl | (simp; done))) (thCons (show Is _ (.s 0 0) (St' []) from isTo (v := St' ([] : LB)) (isSx (l := ([] : LB)) 0 0 rfl) (by first | rfl | (simp; done))) (thCons (show Is _ (.i .i64 (.ofNat 0)) (.int .i64 ((0 : Int))) from isTo (v := .int .i64 0) (isI _ _) (by first | rfl | (congr 1; omega))) (thXv (v := rwS l) rfl rfl (thNil))))) (by kernel_rfl) (thx := []) (thNil) (by kernel_rfl)⟩) lfNil)) rfl (get_lps (by omega)) fiB3 [.r 2000000 9 1 true, .r 2000001 5 1 true] [⟨blk_l, base_l, l.length, es_l⟩, ⟨blk_at_, base_at_, at_.length, es_at_⟩] run7 (args := [.slice (some ⟨blk_l, base_l, none⟩) l.length es_l, St' more, .slice (some ⟨blk_at_, base_at_, none⟩) at_.length es_at_]) ⟨_, _, rfl, relSrN (by decide) rfl w_l.room, ⟨_, _, rfl, rfl, ⟨_, _, rfl, relSrN (by decide) rfl w_at_.room, rfl⟩⟩⟩ w hl rfl (by decide) (argsCons (w_l.arg (T.get_leaf _) rfl) (argsCons (w_at_.arg (T.get_leaf _) rfl) argsNil)) rfl
def hy8 : LK := [(.bytes [], .x 1),
  (.rn, .x 2000001),
  (.rl (.x 2000000) 1, .x 2),
  (.bin .gtr (.x 2) (.i .i64 (.ofNat 10)), .b true)]
theorem run8 : Go.AX.okB (call (tbl hy8) 9000 3 [.sr 4, .x 0, .es] ⟨addR 4 [.r 2000000 9 1 true] .leaf, 4 + List.length (α := Ent) [.r 2000000 9 1 true], 0, 0⟩) = true := by kernel_rfl
def nu8 (blk_l : Nat) (base_l : Nat) (es_l : Nat) (l : List LB) (more : LB) (ad_at_ : Option Addr) (cp_at_ : Nat) : List Value := [St' more,
  St' ([] : LB),
  .int .i64 ((l.length : Int))]
def ro8 (blk_l : Nat) (base_l : Nat) (es_l : Nat) (l : List LB) (more : LB) (ad_at_ : Option Addr) (cp_at_ : Nat) : List Value := [rwS l,
  rwS ([] : List LB)]
theorem on8 (blk_l : Nat) (base_l : Nat) (es_l : Nat) (l : List LB) (more : LB) (ad_at_ : Option Addr) (cp_at_ : Nat) : ∀ j, (nuL (nu8 blk_l base_l es_l l more ad_at_ cp_at_) j).oneCell' = true := nuL_one (l := nu8 blk_l base_l es_l l more ad_at_ cp_at_) rfl
theorem path8 (blk_l : Nat) (base_l : Nat) (es_l : Nat) (l : List LB) (more : LB) (ad_at_ : Option Addr) (cp_at_ : Nat) (b0 : 1 ≤ l.length) (b1 : ∀ q, q ∈ l → q.length ≤ 140737488351232) (b2 : l.length ≤ 9223372036854775807) (b3 : more.length ≤ 9223372036854775807) (h0 : 10 < (l.length : Int)) (w : World) (hl : laidE w) (w_l : InRow w 1 (l.map St') blk_l base_l l.length es_l) : CwR 3 #[.slice (some ⟨blk_l, base_l, none⟩) l.length es_l, St' more, .slice ad_at_ 0 cp_at_] w (.bool true) := by
  have hn0 : ([] : LB).length = 0 := rfl; have hL6 : [u8 48, u8 13, u8 10, u8 13, u8 10].length = 5 := rfl
  have ho : ∀ k r, (k, r) ∈ hy8 → HOk (cx (nuX (nu8 blk_l base_l es_l l more ad_at_ cp_at_) (rX (ro8 blk_l base_l es_l l more ad_at_ cp_at_) (fun _ => .bool true))) (nuX_one (on8 blk_l base_l es_l l more ad_at_ cp_at_)) 3 laidE laidE_stab) k r := by
    unfold hy8
    exact hc (kBytesB (bs := ([] : LB)) .nil (denX rfl)) <|
     hc (kRn (denX rfl)) <|
     hc (kRl (isX rfl) (denX rfl) (by first | omega | (simp <;> omega))) <|
     hc (gtcT rfl (by omega)) <|
     hnil
  obtain ⟨fi, hfi, hb⟩ := fiE
  exact runPL (tb := (tbl hy8)) ((tabkOk (nuX (nu8 blk_l base_l es_l l more ad_at_ cp_at_) (rX (ro8 blk_l base_l es_l l more ad_at_ cp_at_) (fun _ => .bool true))) (nuX_one (on8 blk_l base_l es_l l more ad_at_ cp_at_))).hyps ho) rfl hfi hb [.r 2000000 9 1 true] [⟨blk_l, base_l, l.length, es_l⟩] run8 (args := [.slice (some ⟨blk_l, base_l, none⟩) l.length es_l, St' more, .slice ad_at_ 0 cp_at_]) ⟨_, _, rfl, relSrN (by decide) rfl w_l.room, ⟨_, _, rfl, rfl, ⟨_, _, rfl, ⟨_, _, rfl⟩, rfl⟩⟩⟩ w hl rfl (by decide) (argsCons (w_l.arg (T.get_leaf _) rfl) argsNil) rfl
end Go.Proofs.YtamjghigoipbeaaDoor.chunkBack
