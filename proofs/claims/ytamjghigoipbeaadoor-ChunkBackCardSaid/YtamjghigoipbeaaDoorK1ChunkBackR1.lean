/- A part of the proof: an interpreter of the model's own code on partly known states, and that what it answers is what the program answers. No condition of its own. -/
import Derived.Test.YtamjghigoipbeaaDoorK1ChunkBackO5
set_option maxRecDepth 100000
set_option linter.unusedVariables false
set_option linter.unusedSimpArgs false
set_option maxHeartbeats 4000000
namespace Go.Proofs.YtamjghigoipbeaaDoor.chunkBack
open Go Go.AX Go.Proofs Go.Proofs.YtamjghigoipbeaaDoor
def hy3 : LK := [(.bytes [], .x 1),
  (.rn, .x 2000002),
  (.rl (.x 2000000) 1, .x 2),
  (.bin .gtr (.x 2) (.i .i64 (.ofNat 10)), .b false),
  (.len (.x 0), .x 3),
  (.bin .gtr (.x 3) (.i .i64 (.ofNat 100)), .b false),
  (.bin .add (.x 4) (.s 5 43168435504), .x 6),
  (.len (.x 6), .x 7),
  (.bin .add (.x 6) (.x 0), .x 8),
  (.bin .eql (.x 9) (.x 7), .b true),
  (.bin .eql (.x 10) (.i .i64 (.ofNat 4)), .b true),
  (.bin .eql (.x 11) (.x 5), .b true)]
def lh949 : LH := ⟨4, 20, 30, [(4, .r 2000000 9 1 true)], []⟩
def lf949 : LF := ⟨7, 117, [(0, .sr 4), (7, .s 0 0), (8, .s 0 0), (9, .i .i64 (.ofNat 0))], [1, 2], (.exit 0), [(7, .x 4), (8, .x 5)], some lh949⟩
def lh950 : LH := ⟨4, 40, 140, [(5, .r 2000001 5 1 true), (30, .b ⟨38, .l [.i .i64 (.ofNat 4000), .i .i64 (.ofNat 0), .nils, .b false, .i .i64 (.ofNat 0), .i .i64 (.ofNat 0), .nils], 0, 0, 0, false, false⟩)], [(30, .b ⟨38, .l [.und, .x 10, .und, .und, .und, .und, .sy 40], 0, 0, 0, false, false⟩), (40, .t 11 5)]⟩
def lf950 : LF := ⟨18, 117, [(2, .sr 5), (7, .x 8), (11, .p 30 0), (12, .i .i64 (.ofNat 0)), (13, .i .i64 (.ofNat 0))], [8, 10], (.exit 2), [(11, .p 30 0), (12, .x 9)], some lh950⟩
noncomputable def tab3 : Tab := addLps ({ tabk with hyp := hy3 }) 3 fi3 [lf949, lf950]
theorem run3 : Go.AX.okB (call tab3 9000 3 [.sr 4, .x 0, .sr 5] ⟨addR 4 [.r 2000000 9 1 true, .r 2000001 5 1 true] .leaf, 4 + List.length (α := Ent) [.r 2000000 9 1 true, .r 2000001 5 1 true], 0, 0⟩) = true := by kernel_rfl
def nu3 (blk_l : Nat) (base_l : Nat) (es_l : Nat) (l : List LB) (more : LB) (blk_at_ : Nat) (base_at_ : Nat) (es_at_ : Nat) (at_ : List Int) : List Value := [St' more,
  St' ([] : LB),
  .int .i64 ((l.length : Int)),
  .int .i64 ((more.length : Int)),
  St' (List.flatMap wrS l),
  St' (List.flatten l),
  St' ((List.flatMap wrS l) ++ [u8 48, u8 13, u8 10, u8 13, u8 10]),
  .int .i64 (((List.flatMap wrS l).length : Int) + 5),
  St' ((List.flatMap wrS l) ++ ([u8 48, u8 13, u8 10, u8 13, u8 10] ++ more)),
  .int .i64 ((nA l)),
  .int .i64 (4),
  St' (List.flatten l)]
def ro3 (blk_l : Nat) (base_l : Nat) (es_l : Nat) (l : List LB) (more : LB) (blk_at_ : Nat) (base_at_ : Nat) (es_at_ : Nat) (at_ : List Int) : List Value := [rwS l,
  rwI .u8 at_,
  rwS ([] : List LB)]
theorem on3 (blk_l : Nat) (base_l : Nat) (es_l : Nat) (l : List LB) (more : LB) (blk_at_ : Nat) (base_at_ : Nat) (es_at_ : Nat) (at_ : List Int) : ∀ j, (nuL (nu3 blk_l base_l es_l l more blk_at_ base_at_ es_at_ at_) j).oneCell' = true := nuL_one (l := nu3 blk_l base_l es_l l more blk_at_ base_at_ es_at_ at_) rfl
theorem path3 (blk_l : Nat) (base_l : Nat) (es_l : Nat) (l : List LB) (more : LB) (blk_at_ : Nat) (base_at_ : Nat) (es_at_ : Nat) (at_ : List Int) (b0 : 1 ≤ l.length) (b1 : ∀ q, q ∈ l → q.length ≤ 140737488351232) (b2 : l.length ≤ 9223372036854775807) (b3 : more.length ≤ 9223372036854775807) (b4 : 1 ≤ at_.length) (b5 : ∀ n, n ∈ at_ → 0 ≤ n ∧ n ≤ 255) (b6 : at_.length ≤ 9223372036854775807) (h0 : ¬ (10 < (l.length : Int))) (h1 : ¬ (100 < (more.length : Int))) (h2 : ok3 l) (h3 : ¬ ((List.flatten l).length = 0)) (w : World) (hl : laidE w) (w_l : InRow w 1 (l.map St') blk_l base_l l.length es_l) (w_at_ : InRow w 1 (at_.map (Value.int .u8)) blk_at_ base_at_ at_.length es_at_) : CwR 3 #[.slice (some ⟨blk_l, base_l, none⟩) l.length es_l, St' more, .slice (some ⟨blk_at_, base_at_, none⟩) at_.length es_at_] w (.bool true) := by
  have hn0 : ([] : LB).length = 0 := rfl; have hL6 : [u8 48, u8 13, u8 10, u8 13, u8 10].length = 5 := rfl
  have hps := wrs_len l (by assumption)
  have hnA := nA_e l
  have hok : ok3 l := by assumption
  have hps2 := wrs_len l hok
  have hFL : (List.flatMap wrS l ++ [u8 48, u8 13, u8 10, u8 13, u8 10]).length = (List.flatMap wrS l).length + 5 := by rw [List.length_append]; rfl
  have ho : ∀ k r, (k, r) ∈ hy3 → HOk (cx (nuX (nu3 blk_l base_l es_l l more blk_at_ base_at_ es_at_ at_) (rX (ro3 blk_l base_l es_l l more blk_at_ base_at_ es_at_ at_) (fun _ => .bool true))) (nuX_one (on3 blk_l base_l es_l l more blk_at_ base_at_ es_at_ at_)) 3 laidE laidE_stab) k r := by
    unfold hy3
    exact hc (kBytesB (bs := ([] : LB)) .nil (denX rfl)) <|
     hc (kRn (denX rfl)) <|
     hc (kRl (isX rfl) (denX rfl) (by first | omega | (simp <;> omega))) <|
     hc (gtcF rfl (by omega)) <|
     hc (lnV rfl rfl (by omega)) <|
     hc (gtcF rfl (by omega)) <|
     hc (kCat (isX rfl) (isSx (l := [u8 48, u8 13, u8 10, u8 13, u8 10]) 5 43168435504 rfl) (denX rfl) (by first | rfl | (simp; done)) (by first | omega | (simp <;> omega))) <|
     hc (lnV rfl rfl (by first | omega | (simp <;> omega))) <|
     hc (kCat (isX rfl) (isX rfl) (denX rfl) (by first | rfl | (simp; done)) (by first | omega | (simp <;> omega))) <|
     hc (eqXT rfl rfl (by omega)) <|
     hc (eqcT rfl (by omega)) <|
     hc (kEqS (isX rfl) (isX rfl) (decide_eq_true rfl)) <|
     hnil
  exact runPL (tb := tab3) (AllOk.lp1 ((tabkOk (nuX (nu3 blk_l base_l es_l l more blk_at_ base_at_ es_at_ at_) (rX (ro3 blk_l base_l es_l l more blk_at_ base_at_ es_at_ at_) (fun _ => .bool true))) (nuX_one (on3 blk_l base_l es_l l more blk_at_ base_at_ es_at_ at_))).hyps ho) (by omega) fi3_at fi3_body (lfCons (lpKnown rfl ⟨0, keyLw, lfOkLw_0 (l := lf949) (h := lh949) l (by assumption) (0, (0 : Int), [], []) (mkILw l 0 (0 : Int) [] [] ⟨by omega, by omega, by omega, by assumption, rfl, rfl, (fun q hq => nomatch hq), by simp, by simp, by omega⟩) rfl (by kernel_rfl) (th0 := [(0, .s 0 0), (1, .s 0 0), (2, .i .i64 (.ofNat 0)), (2000000, .x 2000000)]) (sg0 := []) (fun X => thCons (show Is _ (.s 0 0) (St' []) from isTo (v := St' ([] : LB)) (isSx (l := ([] : LB)) 0 0 rfl) (by first | rfl | (simp; done))) (thCons (show Is _ (.s 0 0) (St' []) from isTo (v := St' ([] : LB)) (isSx (l := ([] : LB)) 0 0 rfl) (by first | rfl | (simp; done))) (thCons (show Is _ (.i .i64 (.ofNat 0)) (.int .i64 ((0 : Int))) from isTo (v := .int .i64 0) (isI _ _) (by first | rfl | (congr 1; omega))) (thXv (v := rwS l) rfl rfl (thNil))))) (by kernel_rfl) (thx := [(4, .x 0), (5, .x 1)]) (thXv (v := St' (List.flatMap wrS l)) rfl rfl (thXv (v := St' (List.flatten l)) rfl rfl (thNil))) (by kernel_rfl)⟩) (lfCons (lpKnown rfl ⟨1, keyOa, lfOkOa_1 (l := lf950) (h := lh950) l more at_ (by assumption) (0, (0 : Int), (0 : Int)) (mkIOa l more at_ 0 (0 : Int) (0 : Int) ⟨by omega, by omega, by omega, by omega, by omega, hok, by omega, by omega, fun _ => rfl, fun h => by omega, (fun _ h => (by cases h)), fun h => by omega, fun _ => rfl, fun h => by omega, by assumption, by omega, by omega, by omega⟩) rfl (by kernel_rfl) (th0 := [(0, .x 8), (1, .i .i64 (.ofNat 0)), (2, .i .i64 (.ofNat 0)), (3, .i .i64 (.ofNat 0)), (4, .i .i64 (.ofNat 0)), (2000000, .x 2000001)]) (sg0 := []) (fun X => thXe (v := St' ((List.flatMap wrS l) ++ ([u8 48, u8 13, u8 10, u8 13, u8 10] ++ more))) (u := St' (ckS l ++ more)) rfl rfl (congrArg (fun l => St' l) (ck_mo l more)) (thCons (show Is _ (.i .i64 (.ofNat 0)) (.int .i64 ((0 : Int))) from isTo (v := .int .i64 0) (isI _ _) (by first | rfl | (congr 1; omega))) (thCons (show Is _ (.i .i64 (.ofNat 0)) (.int .i64 ((0 : Int))) from isTo (v := .int .i64 0) (isI _ _) (by first | rfl | (congr 1; omega))) (thCons (show Is _ (.i .i64 (.ofNat 0)) (.int .i64 ((wA l (0 : Int)))) from isTo (v := .int .i64 0) (isI _ _) (by first | rfl | (congr 1; omega))) (thCons (show Is _ (.i .i64 (.ofNat 0)) (.int .i64 ((fA l (0 : Int)))) from isTo (v := .int .i64 0) (isI _ _) (by first | rfl | (congr 1; omega))) (thXv (v := rwI .u8 at_) rfl rfl (thNil))))))) (by kernel_rfl) (thx := [(9, .x 0), (10, .x 1), (11, .x 2)]) (thXv (v := .int .i64 ((nA l))) rfl rfl (thXv (v := .int .i64 (4)) rfl rfl (thXv (v := St' (List.flatten l)) rfl rfl (thNil)))) (by kernel_rfl)⟩) lfNil))) rfl (get_lps (by omega)) fiB3 [.r 2000000 9 1 true, .r 2000001 5 1 true] [⟨blk_l, base_l, l.length, es_l⟩, ⟨blk_at_, base_at_, at_.length, es_at_⟩] run3 (args := [.slice (some ⟨blk_l, base_l, none⟩) l.length es_l, St' more, .slice (some ⟨blk_at_, base_at_, none⟩) at_.length es_at_]) ⟨_, _, rfl, relSrN (by decide) rfl w_l.room, ⟨_, _, rfl, rfl, ⟨_, _, rfl, relSrN (by decide) rfl w_at_.room, rfl⟩⟩⟩ w hl rfl (by decide) (argsCons (w_l.arg (T.get_leaf _) rfl) (argsCons (w_at_.arg (T.get_leaf _) rfl) argsNil)) rfl
def hy4 : LK := [(.bytes [], .x 1),
  (.rn, .x 2000001),
  (.rl (.x 2000000) 1, .x 2),
  (.bin .gtr (.x 2) (.i .i64 (.ofNat 10)), .b false),
  (.len (.x 0), .x 3),
  (.bin .gtr (.x 3) (.i .i64 (.ofNat 100)), .b false),
  (.bin .add (.x 4) (.s 5 43168435504), .x 6),
  (.len (.x 6), .x 7),
  (.bin .add (.x 6) (.x 0), .x 8),
  (.bin .eql (.x 9) (.x 7), .b true),
  (.bin .eql (.x 10) (.i .i64 (.ofNat 4)), .b true),
  (.bin .eql (.x 1) (.x 5), .b true)]
def lh951 : LH := ⟨4, 20, 30, [(4, .r 2000000 9 1 true)], []⟩
def lf951 : LF := ⟨7, 117, [(0, .sr 4), (7, .s 0 0), (8, .s 0 0), (9, .i .i64 (.ofNat 0))], [1, 2], (.exit 0), [(7, .x 4), (8, .x 5)], some lh951⟩
def lh952 : LH := ⟨4, 40, 140, [(30, .b ⟨38, .l [.i .i64 (.ofNat 4000), .i .i64 (.ofNat 0), .nils, .b false, .i .i64 (.ofNat 0), .i .i64 (.ofNat 0), .nils], 0, 0, 0, false, false⟩)], [(30, .b ⟨38, .l [.und, .x 10, .und, .und, .und, .und, .nils], 0, 0, 0, false, false⟩)]⟩
def lf952 : LF := ⟨18, 117, [(2, .es), (7, .x 8), (11, .p 30 0), (12, .i .i64 (.ofNat 0)), (13, .i .i64 (.ofNat 0))], [8, 10], (.exit 2), [(11, .p 30 0), (12, .x 9)], some lh952⟩
noncomputable def tab4 : Tab := addLps ({ tabk with hyp := hy4 }) 3 fi3 [lf951, lf952]
theorem run4 : Go.AX.okB (call tab4 9000 3 [.sr 4, .x 0, .es] ⟨addR 4 [.r 2000000 9 1 true] .leaf, 4 + List.length (α := Ent) [.r 2000000 9 1 true], 0, 0⟩) = true := by kernel_rfl
def nu4 (blk_l : Nat) (base_l : Nat) (es_l : Nat) (l : List LB) (more : LB) (ad_at_ : Option Addr) (cp_at_ : Nat) : List Value := [St' more,
  St' ([] : LB),
  .int .i64 ((l.length : Int)),
  .int .i64 ((more.length : Int)),
  St' (List.flatMap wrS l),
  St' (List.flatten l),
  St' ((List.flatMap wrS l) ++ [u8 48, u8 13, u8 10, u8 13, u8 10]),
  .int .i64 (((List.flatMap wrS l).length : Int) + 5),
  St' ((List.flatMap wrS l) ++ ([u8 48, u8 13, u8 10, u8 13, u8 10] ++ more)),
  .int .i64 ((nA l)),
  .int .i64 (4)]
def ro4 (blk_l : Nat) (base_l : Nat) (es_l : Nat) (l : List LB) (more : LB) (ad_at_ : Option Addr) (cp_at_ : Nat) : List Value := [rwS l,
  rwS ([] : List LB)]
theorem on4 (blk_l : Nat) (base_l : Nat) (es_l : Nat) (l : List LB) (more : LB) (ad_at_ : Option Addr) (cp_at_ : Nat) : ∀ j, (nuL (nu4 blk_l base_l es_l l more ad_at_ cp_at_) j).oneCell' = true := nuL_one (l := nu4 blk_l base_l es_l l more ad_at_ cp_at_) rfl
theorem path4 (blk_l : Nat) (base_l : Nat) (es_l : Nat) (l : List LB) (more : LB) (ad_at_ : Option Addr) (cp_at_ : Nat) (b0 : 1 ≤ l.length) (b1 : ∀ q, q ∈ l → q.length ≤ 140737488351232) (b2 : l.length ≤ 9223372036854775807) (b3 : more.length ≤ 9223372036854775807) (h0 : ¬ (10 < (l.length : Int))) (h1 : ¬ (100 < (more.length : Int))) (h2 : ok3 l) (h3 : (List.flatten l).length = 0) (w : World) (hl : laidE w) (w_l : InRow w 1 (l.map St') blk_l base_l l.length es_l) : CwR 3 #[.slice (some ⟨blk_l, base_l, none⟩) l.length es_l, St' more, .slice ad_at_ 0 cp_at_] w (.bool true) := by
  have hn0 : ([] : LB).length = 0 := rfl; have hL6 : [u8 48, u8 13, u8 10, u8 13, u8 10].length = 5 := rfl
  have hps := wrs_len l (by assumption)
  have hnA := nA_e l
  have hok : ok3 l := by assumption
  have hps2 := wrs_len l hok
  have hFL : (List.flatMap wrS l ++ [u8 48, u8 13, u8 10, u8 13, u8 10]).length = (List.flatMap wrS l).length + 5 := by rw [List.length_append]; rfl
  have ho : ∀ k r, (k, r) ∈ hy4 → HOk (cx (nuX (nu4 blk_l base_l es_l l more ad_at_ cp_at_) (rX (ro4 blk_l base_l es_l l more ad_at_ cp_at_) (fun _ => .bool true))) (nuX_one (on4 blk_l base_l es_l l more ad_at_ cp_at_)) 3 laidE laidE_stab) k r := by
    unfold hy4
    exact hc (kBytesB (bs := ([] : LB)) .nil (denX rfl)) <|
     hc (kRn (denX rfl)) <|
     hc (kRl (isX rfl) (denX rfl) (by first | omega | (simp <;> omega))) <|
     hc (gtcF rfl (by omega)) <|
     hc (lnV rfl rfl (by omega)) <|
     hc (gtcF rfl (by omega)) <|
     hc (kCat (isX rfl) (isSx (l := [u8 48, u8 13, u8 10, u8 13, u8 10]) 5 43168435504 rfl) (denX rfl) (by first | rfl | (simp; done)) (by first | omega | (simp <;> omega))) <|
     hc (lnV rfl rfl (by first | omega | (simp <;> omega))) <|
     hc (kCat (isX rfl) (isX rfl) (denX rfl) (by first | rfl | (simp; done)) (by first | omega | (simp <;> omega))) <|
     hc (eqXT rfl rfl (by omega)) <|
     hc (eqcT rfl (by omega)) <|
     hc (kEqS (isX rfl) (isX rfl) (nilT' (by omega))) <|
     hnil
  exact runPL (tb := tab4) (AllOk.lp1 ((tabkOk (nuX (nu4 blk_l base_l es_l l more ad_at_ cp_at_) (rX (ro4 blk_l base_l es_l l more ad_at_ cp_at_) (fun _ => .bool true))) (nuX_one (on4 blk_l base_l es_l l more ad_at_ cp_at_))).hyps ho) (by omega) fi3_at fi3_body (lfCons (lpKnown rfl ⟨0, keyLw, lfOkLw_0 (l := lf951) (h := lh951) l (by assumption) (0, (0 : Int), [], []) (mkILw l 0 (0 : Int) [] [] ⟨by omega, by omega, by omega, by assumption, rfl, rfl, (fun q hq => nomatch hq), by simp, by simp, by omega⟩) rfl (by kernel_rfl) (th0 := [(0, .s 0 0), (1, .s 0 0), (2, .i .i64 (.ofNat 0)), (2000000, .x 2000000)]) (sg0 := []) (fun X => thCons (show Is _ (.s 0 0) (St' []) from isTo (v := St' ([] : LB)) (isSx (l := ([] : LB)) 0 0 rfl) (by first | rfl | (simp; done))) (thCons (show Is _ (.s 0 0) (St' []) from isTo (v := St' ([] : LB)) (isSx (l := ([] : LB)) 0 0 rfl) (by first | rfl | (simp; done))) (thCons (show Is _ (.i .i64 (.ofNat 0)) (.int .i64 ((0 : Int))) from isTo (v := .int .i64 0) (isI _ _) (by first | rfl | (congr 1; omega))) (thXv (v := rwS l) rfl rfl (thNil))))) (by kernel_rfl) (thx := [(4, .x 0), (5, .x 1)]) (thXv (v := St' (List.flatMap wrS l)) rfl rfl (thXv (v := St' (List.flatten l)) rfl rfl (thNil))) (by kernel_rfl)⟩) (lfCons (lpKnown rfl ⟨1, keyOe, lfOkOe_0 (l := lf952) (h := lh952) l more (by assumption) (0, (0 : Int), (0 : Int)) (mkIOe l more 0 (0 : Int) (0 : Int) ⟨by omega, by omega, by omega, by omega, by omega, hok, by omega, by omega, fun _ => rfl, fun h => by omega, (fun _ h => (by cases h)), fun h => by omega, fun _ => rfl, fun h => by omega, by omega⟩) rfl (by kernel_rfl) (th0 := [(0, .x 8), (1, .i .i64 (.ofNat 0)), (2, .i .i64 (.ofNat 0)), (3, .i .i64 (.ofNat 0)), (4, .i .i64 (.ofNat 0))]) (sg0 := []) (fun X => thXe (v := St' ((List.flatMap wrS l) ++ ([u8 48, u8 13, u8 10, u8 13, u8 10] ++ more))) (u := St' (ckS l ++ more)) rfl rfl (congrArg (fun l => St' l) (ck_mo l more)) (thCons (show Is _ (.i .i64 (.ofNat 0)) (.int .i64 ((0 : Int))) from isTo (v := .int .i64 0) (isI _ _) (by first | rfl | (congr 1; omega))) (thCons (show Is _ (.i .i64 (.ofNat 0)) (.int .i64 ((0 : Int))) from isTo (v := .int .i64 0) (isI _ _) (by first | rfl | (congr 1; omega))) (thCons (show Is _ (.i .i64 (.ofNat 0)) (.int .i64 ((wA l (0 : Int)))) from isTo (v := .int .i64 0) (isI _ _) (by first | rfl | (congr 1; omega))) (thCons (show Is _ (.i .i64 (.ofNat 0)) (.int .i64 ((fA l (0 : Int)))) from isTo (v := .int .i64 0) (isI _ _) (by first | rfl | (congr 1; omega))) (thNil)))))) (by kernel_rfl) (thx := [(9, .x 0), (10, .x 1)]) (thXv (v := .int .i64 ((nA l))) rfl rfl (thXv (v := .int .i64 (4)) rfl rfl (thNil))) (by kernel_rfl)⟩) lfNil))) rfl (get_lps (by omega)) fiB3 [.r 2000000 9 1 true] [⟨blk_l, base_l, l.length, es_l⟩] run4 (args := [.slice (some ⟨blk_l, base_l, none⟩) l.length es_l, St' more, .slice ad_at_ 0 cp_at_]) ⟨_, _, rfl, relSrN (by decide) rfl w_l.room, ⟨_, _, rfl, rfl, ⟨_, _, rfl, ⟨_, _, rfl⟩, rfl⟩⟩⟩ w hl rfl (by decide) (argsCons (w_l.arg (T.get_leaf _) rfl) argsNil) rfl
def hy5 : LK := [(.bytes [], .x 1),
  (.rn, .x 2000002),
  (.rl (.x 2000000) 1, .x 2),
  (.bin .gtr (.x 2) (.i .i64 (.ofNat 10)), .b false),
  (.len (.x 0), .x 3),
  (.bin .gtr (.x 3) (.i .i64 (.ofNat 100)), .b false),
  (.bin .add (.x 4) (.s 5 43168435504), .x 6),
  (.len (.x 6), .x 7),
  (.bin .add (.x 6) (.x 0), .x 8),
  (.bin .eql (.x 9) (.x 7), .b true),
  (.bin .eql (.x 10) (.i .i64 (.ofNat 4)), .b true),
  (.bin .eql (.x 1) (.x 5), .b true)]
def lh953 : LH := ⟨4, 20, 30, [(4, .r 2000000 9 1 true)], []⟩
def lf953 : LF := ⟨7, 117, [(0, .sr 4), (7, .s 0 0), (8, .s 0 0), (9, .i .i64 (.ofNat 0))], [1, 2], (.exit 0), [(7, .x 4), (8, .x 5)], some lh953⟩
def lh954 : LH := ⟨4, 40, 140, [(5, .r 2000001 5 1 true), (30, .b ⟨38, .l [.i .i64 (.ofNat 4000), .i .i64 (.ofNat 0), .nils, .b false, .i .i64 (.ofNat 0), .i .i64 (.ofNat 0), .nils], 0, 0, 0, false, false⟩)], [(30, .b ⟨38, .l [.und, .x 10, .und, .und, .und, .und, .nils], 0, 0, 0, false, false⟩)]⟩
def lf954 : LF := ⟨18, 117, [(2, .sr 5), (7, .x 8), (11, .p 30 0), (12, .i .i64 (.ofNat 0)), (13, .i .i64 (.ofNat 0))], [8, 10], (.exit 2), [(11, .p 30 0), (12, .x 9)], some lh954⟩
noncomputable def tab5 : Tab := addLps ({ tabk with hyp := hy5 }) 3 fi3 [lf953, lf954]
theorem run5 : Go.AX.okB (call tab5 9000 3 [.sr 4, .x 0, .sr 5] ⟨addR 4 [.r 2000000 9 1 true, .r 2000001 5 1 true] .leaf, 4 + List.length (α := Ent) [.r 2000000 9 1 true, .r 2000001 5 1 true], 0, 0⟩) = true := by kernel_rfl
def nu5 (blk_l : Nat) (base_l : Nat) (es_l : Nat) (l : List LB) (more : LB) (blk_at_ : Nat) (base_at_ : Nat) (es_at_ : Nat) (at_ : List Int) : List Value := [St' more,
  St' ([] : LB),
  .int .i64 ((l.length : Int)),
  .int .i64 ((more.length : Int)),
  St' (List.flatMap wrS l),
  St' (List.flatten l),
  St' ((List.flatMap wrS l) ++ [u8 48, u8 13, u8 10, u8 13, u8 10]),
  .int .i64 (((List.flatMap wrS l).length : Int) + 5),
  St' ((List.flatMap wrS l) ++ ([u8 48, u8 13, u8 10, u8 13, u8 10] ++ more)),
  .int .i64 ((nA l)),
  .int .i64 (4)]
def ro5 (blk_l : Nat) (base_l : Nat) (es_l : Nat) (l : List LB) (more : LB) (blk_at_ : Nat) (base_at_ : Nat) (es_at_ : Nat) (at_ : List Int) : List Value := [rwS l,
  rwI .u8 at_,
  rwS ([] : List LB)]
theorem on5 (blk_l : Nat) (base_l : Nat) (es_l : Nat) (l : List LB) (more : LB) (blk_at_ : Nat) (base_at_ : Nat) (es_at_ : Nat) (at_ : List Int) : ∀ j, (nuL (nu5 blk_l base_l es_l l more blk_at_ base_at_ es_at_ at_) j).oneCell' = true := nuL_one (l := nu5 blk_l base_l es_l l more blk_at_ base_at_ es_at_ at_) rfl
theorem path5 (blk_l : Nat) (base_l : Nat) (es_l : Nat) (l : List LB) (more : LB) (blk_at_ : Nat) (base_at_ : Nat) (es_at_ : Nat) (at_ : List Int) (b0 : 1 ≤ l.length) (b1 : ∀ q, q ∈ l → q.length ≤ 140737488351232) (b2 : l.length ≤ 9223372036854775807) (b3 : more.length ≤ 9223372036854775807) (b4 : 1 ≤ at_.length) (b5 : ∀ n, n ∈ at_ → 0 ≤ n ∧ n ≤ 255) (b6 : at_.length ≤ 9223372036854775807) (h0 : ¬ (10 < (l.length : Int))) (h1 : ¬ (100 < (more.length : Int))) (h2 : ok3 l) (h3 : (List.flatten l).length = 0) (w : World) (hl : laidE w) (w_l : InRow w 1 (l.map St') blk_l base_l l.length es_l) (w_at_ : InRow w 1 (at_.map (Value.int .u8)) blk_at_ base_at_ at_.length es_at_) : CwR 3 #[.slice (some ⟨blk_l, base_l, none⟩) l.length es_l, St' more, .slice (some ⟨blk_at_, base_at_, none⟩) at_.length es_at_] w (.bool true) := by
  have hn0 : ([] : LB).length = 0 := rfl; have hL6 : [u8 48, u8 13, u8 10, u8 13, u8 10].length = 5 := rfl
  have hps := wrs_len l (by assumption)
  have hnA := nA_e l
  have hok : ok3 l := by assumption
  have hps2 := wrs_len l hok
  have hFL : (List.flatMap wrS l ++ [u8 48, u8 13, u8 10, u8 13, u8 10]).length = (List.flatMap wrS l).length + 5 := by rw [List.length_append]; rfl
  have ho : ∀ k r, (k, r) ∈ hy5 → HOk (cx (nuX (nu5 blk_l base_l es_l l more blk_at_ base_at_ es_at_ at_) (rX (ro5 blk_l base_l es_l l more blk_at_ base_at_ es_at_ at_) (fun _ => .bool true))) (nuX_one (on5 blk_l base_l es_l l more blk_at_ base_at_ es_at_ at_)) 3 laidE laidE_stab) k r := by
    unfold hy5
    exact hc (kBytesB (bs := ([] : LB)) .nil (denX rfl)) <|
     hc (kRn (denX rfl)) <|
     hc (kRl (isX rfl) (denX rfl) (by first | omega | (simp <;> omega))) <|
     hc (gtcF rfl (by omega)) <|
     hc (lnV rfl rfl (by omega)) <|
     hc (gtcF rfl (by omega)) <|
     hc (kCat (isX rfl) (isSx (l := [u8 48, u8 13, u8 10, u8 13, u8 10]) 5 43168435504 rfl) (denX rfl) (by first | rfl | (simp; done)) (by first | omega | (simp <;> omega))) <|
     hc (lnV rfl rfl (by first | omega | (simp <;> omega))) <|
     hc (kCat (isX rfl) (isX rfl) (denX rfl) (by first | rfl | (simp; done)) (by first | omega | (simp <;> omega))) <|
     hc (eqXT rfl rfl (by omega)) <|
     hc (eqcT rfl (by omega)) <|
     hc (kEqS (isX rfl) (isX rfl) (nilT' (by omega))) <|
     hnil
  exact runPL (tb := tab5) (AllOk.lp1 ((tabkOk (nuX (nu5 blk_l base_l es_l l more blk_at_ base_at_ es_at_ at_) (rX (ro5 blk_l base_l es_l l more blk_at_ base_at_ es_at_ at_) (fun _ => .bool true))) (nuX_one (on5 blk_l base_l es_l l more blk_at_ base_at_ es_at_ at_))).hyps ho) (by omega) fi3_at fi3_body (lfCons (lpKnown rfl ⟨0, keyLw, lfOkLw_0 (l := lf953) (h := lh953) l (by assumption) (0, (0 : Int), [], []) (mkILw l 0 (0 : Int) [] [] ⟨by omega, by omega, by omega, by assumption, rfl, rfl, (fun q hq => nomatch hq), by simp, by simp, by omega⟩) rfl (by kernel_rfl) (th0 := [(0, .s 0 0), (1, .s 0 0), (2, .i .i64 (.ofNat 0)), (2000000, .x 2000000)]) (sg0 := []) (fun X => thCons (show Is _ (.s 0 0) (St' []) from isTo (v := St' ([] : LB)) (isSx (l := ([] : LB)) 0 0 rfl) (by first | rfl | (simp; done))) (thCons (show Is _ (.s 0 0) (St' []) from isTo (v := St' ([] : LB)) (isSx (l := ([] : LB)) 0 0 rfl) (by first | rfl | (simp; done))) (thCons (show Is _ (.i .i64 (.ofNat 0)) (.int .i64 ((0 : Int))) from isTo (v := .int .i64 0) (isI _ _) (by first | rfl | (congr 1; omega))) (thXv (v := rwS l) rfl rfl (thNil))))) (by kernel_rfl) (thx := [(4, .x 0), (5, .x 1)]) (thXv (v := St' (List.flatMap wrS l)) rfl rfl (thXv (v := St' (List.flatten l)) rfl rfl (thNil))) (by kernel_rfl)⟩) (lfCons (lpKnown rfl ⟨1, keyOa, lfOkOa_0 (l := lf954) (h := lh954) l more at_ (by assumption) (0, (0 : Int), (0 : Int)) (mkIOa l more at_ 0 (0 : Int) (0 : Int) ⟨by omega, by omega, by omega, by omega, by omega, hok, by omega, by omega, fun _ => rfl, fun h => by omega, (fun _ h => (by cases h)), fun h => by omega, fun _ => rfl, fun h => by omega, by assumption, by omega, by omega, by omega⟩) rfl (by kernel_rfl) (th0 := [(0, .x 8), (1, .i .i64 (.ofNat 0)), (2, .i .i64 (.ofNat 0)), (3, .i .i64 (.ofNat 0)), (4, .i .i64 (.ofNat 0)), (2000000, .x 2000001)]) (sg0 := []) (fun X => thXe (v := St' ((List.flatMap wrS l) ++ ([u8 48, u8 13, u8 10, u8 13, u8 10] ++ more))) (u := St' (ckS l ++ more)) rfl rfl (congrArg (fun l => St' l) (ck_mo l more)) (thCons (show Is _ (.i .i64 (.ofNat 0)) (.int .i64 ((0 : Int))) from isTo (v := .int .i64 0) (isI _ _) (by first | rfl | (congr 1; omega))) (thCons (show Is _ (.i .i64 (.ofNat 0)) (.int .i64 ((0 : Int))) from isTo (v := .int .i64 0) (isI _ _) (by first | rfl | (congr 1; omega))) (thCons (show Is _ (.i .i64 (.ofNat 0)) (.int .i64 ((wA l (0 : Int)))) from isTo (v := .int .i64 0) (isI _ _) (by first | rfl | (congr 1; omega))) (thCons (show Is _ (.i .i64 (.ofNat 0)) (.int .i64 ((fA l (0 : Int)))) from isTo (v := .int .i64 0) (isI _ _) (by first | rfl | (congr 1; omega))) (thXv (v := rwI .u8 at_) rfl rfl (thNil))))))) (by kernel_rfl) (thx := [(9, .x 0), (10, .x 1)]) (thXv (v := .int .i64 ((nA l))) rfl rfl (thXv (v := .int .i64 (4)) rfl rfl (thNil))) (by kernel_rfl)⟩) lfNil))) rfl (get_lps (by omega)) fiB3 [.r 2000000 9 1 true, .r 2000001 5 1 true] [⟨blk_l, base_l, l.length, es_l⟩, ⟨blk_at_, base_at_, at_.length, es_at_⟩] run5 (args := [.slice (some ⟨blk_l, base_l, none⟩) l.length es_l, St' more, .slice (some ⟨blk_at_, base_at_, none⟩) at_.length es_at_]) ⟨_, _, rfl, relSrN (by decide) rfl w_l.room, ⟨_, _, rfl, rfl, ⟨_, _, rfl, relSrN (by decide) rfl w_at_.room, rfl⟩⟩⟩ w hl rfl (by decide) (argsCons (w_l.arg (T.get_leaf _) rfl) (argsCons (w_at_.arg (T.get_leaf _) rfl) argsNil)) rfl
end Go.Proofs.YtamjghigoipbeaaDoor.chunkBack
