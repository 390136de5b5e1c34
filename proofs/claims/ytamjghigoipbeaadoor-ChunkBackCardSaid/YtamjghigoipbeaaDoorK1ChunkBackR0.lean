/- A part of the proof: an interpreter of the model's own code on partly known states, and that what it answers is what the program answers. No condition of its own. -/
import Derived.Test.YtamjghigoipbeaaDoorK1ChunkBackO5
set_option maxRecDepth 100000
set_option linter.unusedVariables false
set_option linter.unusedSimpArgs false
set_option maxHeartbeats 4000000
namespace Go.Proofs.YtamjghigoipbeaaDoor.chunkBack
open Go Go.AX Go.Proofs Go.Proofs.YtamjghigoipbeaaDoor
def hy0 : LK := [(.bytes [], .x 1),
  (.rn, .x 2000000),
  (.len (.x 0), .x 2),
  (.bin .gtr (.x 2) (.i .i64 (.ofNat 100)), .b false),
  (.bin .add (.s 5 43168435504) (.x 0), .x 3),
  (.bin .eql (.x 4) (.i .i64 (.ofNat 5)), .b true),
  (.bin .eql (.x 5) (.i .i64 (.ofNat 4)), .b true),
  (.bin .eql (.x 1) (.s 0 0), .b true)]
def lh1 : LH := ⟨4, 20, 30, [], []⟩
def lf1 : LF := ⟨7, 117, [(0, .es), (7, .s 0 0), (8, .s 0 0), (9, .i .i64 (.ofNat 0))], [1, 2], (.exit 0), [(7, .s 0 0), (8, .s 0 0)], some lh1⟩
def lh461 : LH := ⟨4, 40, 140, [(30, .b ⟨38, .l [.i .i64 (.ofNat 4000), .i .i64 (.ofNat 0), .nils, .b false, .i .i64 (.ofNat 0), .i .i64 (.ofNat 0), .nils], 0, 0, 0, false, false⟩)], [(30, .b ⟨38, .l [.und, .x 5, .und, .und, .und, .und, .nils], 0, 0, 0, false, false⟩)]⟩
def lf461 : LF := ⟨18, 117, [(2, .es), (7, .x 3), (11, .p 30 0), (12, .i .i64 (.ofNat 0)), (13, .i .i64 (.ofNat 0))], [8, 10], (.exit 2), [(11, .p 30 0), (12, .x 4)], some lh461⟩
noncomputable def tab0 : Tab := addLps ({ tabk with hyp := hy0 }) 3 fi3 [lf1, lf461]
theorem run0 (e2 : Nat) : Go.AX.okB (call tab0 9000 3 [.es, .x 0, .es] ⟨H0 e2 , 4, 0, 0⟩) = true := by kernel_rfl
def nu0 (ad_l : Option Addr) (cp_l : Nat) (more : LB) (ad_at_ : Option Addr) (cp_at_ : Nat) : List Value := [St' more,
  St' ([] : LB),
  .int .i64 ((more.length : Int)),
  St' ([u8 48, u8 13, u8 10, u8 13, u8 10] ++ more),
  .int .i64 ((nA ([] : List LB))),
  .int .i64 (4)]
def ro0 (ad_l : Option Addr) (cp_l : Nat) (more : LB) (ad_at_ : Option Addr) (cp_at_ : Nat) : List Value := [rwS ([] : List LB)]
theorem on0 (ad_l : Option Addr) (cp_l : Nat) (more : LB) (ad_at_ : Option Addr) (cp_at_ : Nat) : ∀ j, (nuL (nu0 ad_l cp_l more ad_at_ cp_at_) j).oneCell' = true := nuL_one (l := nu0 ad_l cp_l more ad_at_ cp_at_) rfl
theorem path0 (ad_l : Option Addr) (cp_l : Nat) (more : LB) (ad_at_ : Option Addr) (cp_at_ : Nat) (b0 : more.length ≤ 9223372036854775807) (h0 : ¬ (100 < (more.length : Int))) (w : World) (hl : laidE w) : CwR 3 #[.slice ad_l 0 cp_l, St' more, .slice ad_at_ 0 cp_at_] w (.bool true) := by
  have hn0 : ([] : LB).length = 0 := rfl; have hL6 : [u8 48, u8 13, u8 10, u8 13, u8 10].length = 5 := rfl
  have hnA := nA_e ([] : List LB)
  have hok : ok3 ([] : List LB) := fun q hq => nomatch hq
  have hps2 := wrs_len ([] : List LB) hok
  have hz1 : (([] : List BL).flatMap wrS).length = 0 := rfl
  have hz2 : (([] : List BL).flatten).length = 0 := rfl
  have hz3 : ([] : List BL).length = 0 := rfl
  have ho : ∀ k r, (k, r) ∈ hy0 → HOk (cx (nuX (nu0 ad_l cp_l more ad_at_ cp_at_) (rX (ro0 ad_l cp_l more ad_at_ cp_at_) (fun _ => .bool true))) (nuX_one (on0 ad_l cp_l more ad_at_ cp_at_)) 3 laidE laidE_stab) k r := by
    unfold hy0
    exact hc (kBytesB (bs := ([] : LB)) .nil (denX rfl)) <|
     hc (kRn (denX rfl)) <|
     hc (lnV rfl rfl (by omega)) <|
     hc (gtcF rfl (by omega)) <|
     hc (kCat (isSx (l := [u8 48, u8 13, u8 10, u8 13, u8 10]) 5 43168435504 rfl) (isX rfl) (denX rfl) (by first | rfl | (simp; done)) (by first | omega | (simp <;> omega))) <|
     hc (eqcT rfl (by omega)) <|
     hc (eqcT rfl (by omega)) <|
     hc (kEqS (isX rfl) (isSx (l := ([] : LB)) 0 0 rfl) (decide_eq_true rfl)) <|
     hnil
  exact runP (tb := tab0) (AllOk.lp1 ((tabkOk (nuX (nu0 ad_l cp_l more ad_at_ cp_at_) (rX (ro0 ad_l cp_l more ad_at_ cp_at_) (fun _ => .bool true))) (nuX_one (on0 ad_l cp_l more ad_at_ cp_at_))).hyps ho) (by omega) fi3_at fi3_body (lfCons (lpKnown rfl ⟨0, keyLe, lfOkLe_0 (l := lf1) (h := lh1) (0, (0 : Nat)) (mkILe 0 (0 : Nat) ⟨trivial, by omega⟩) rfl (by kernel_rfl) (th0 := []) (sg0 := []) (fun X => thNil) (by kernel_rfl) (thx := []) (thNil) (by kernel_rfl)⟩) (lfCons (lpKnown rfl ⟨1, keyOe, lfOkOe_0 (l := lf461) (h := lh461) ([] : List LB) more (by omega) (0, (0 : Int), (0 : Int)) (mkIOe ([] : List LB) more 0 (0 : Int) (0 : Int) ⟨by omega, by omega, by omega, by omega, by omega, hok, by omega, by omega, fun _ => rfl, fun h => by omega, (fun _ h => (by cases h)), fun h => by omega, fun _ => rfl, fun h => by omega, by omega⟩) rfl (by kernel_rfl) (th0 := [(0, .x 3), (1, .i .i64 (.ofNat 0)), (2, .i .i64 (.ofNat 0)), (3, .i .i64 (.ofNat 0)), (4, .i .i64 (.ofNat 0))]) (sg0 := []) (fun X => thXe (v := St' ([u8 48, u8 13, u8 10, u8 13, u8 10] ++ more)) (u := St' (ckS ([] : List LB) ++ more)) rfl rfl (congrArg (fun l => St' l) (ck_mo ([] : List LB) more)) (thCons (show Is _ (.i .i64 (.ofNat 0)) (.int .i64 ((0 : Int))) from isTo (v := .int .i64 0) (isI _ _) (by first | rfl | (congr 1; omega))) (thCons (show Is _ (.i .i64 (.ofNat 0)) (.int .i64 ((0 : Int))) from isTo (v := .int .i64 0) (isI _ _) (by first | rfl | (congr 1; omega))) (thCons (show Is _ (.i .i64 (.ofNat 0)) (.int .i64 ((wA ([] : List LB) (0 : Int)))) from isTo (v := .int .i64 0) (isI _ _) (by first | rfl | (congr 1; omega))) (thCons (show Is _ (.i .i64 (.ofNat 0)) (.int .i64 ((fA ([] : List LB) (0 : Int)))) from isTo (v := .int .i64 0) (isI _ _) (by first | rfl | (congr 1; omega))) (thNil)))))) (by kernel_rfl) (thx := [(4, .x 0), (5, .x 1)]) (thXv (v := .int .i64 ((nA ([] : List LB)))) rfl rfl (thXv (v := .int .i64 (4)) rfl rfl (thNil))) (by kernel_rfl)⟩) lfNil))) rfl (get_lps (by omega)) fiB3 (fun e2 => run0 e2 ) (args := [.slice ad_l 0 cp_l, St' more, .slice ad_at_ 0 cp_at_]) (by simp only [RelL, Rel]; exact ⟨_, _, rfl, ⟨_, _, rfl⟩, ⟨_, _, rfl, rfl, ⟨_, _, rfl, ⟨_, _, rfl⟩, rfl⟩⟩⟩) w hl
def hy1 : LK := [(.bytes [], .x 1),
  (.rn, .x 2000001),
  (.len (.x 0), .x 2),
  (.bin .gtr (.x 2) (.i .i64 (.ofNat 100)), .b false),
  (.bin .add (.s 5 43168435504) (.x 0), .x 3),
  (.bin .eql (.x 4) (.i .i64 (.ofNat 5)), .b true),
  (.bin .eql (.x 5) (.i .i64 (.ofNat 4)), .b true),
  (.bin .eql (.x 1) (.s 0 0), .b true)]
def lh462 : LH := ⟨4, 20, 30, [], []⟩
def lf462 : LF := ⟨7, 117, [(0, .es), (7, .s 0 0), (8, .s 0 0), (9, .i .i64 (.ofNat 0))], [1, 2], (.exit 0), [(7, .s 0 0), (8, .s 0 0)], some lh462⟩
def lh946 : LH := ⟨4, 40, 140, [(5, .r 2000000 5 1 true), (30, .b ⟨38, .l [.i .i64 (.ofNat 4000), .i .i64 (.ofNat 0), .nils, .b false, .i .i64 (.ofNat 0), .i .i64 (.ofNat 0), .nils], 0, 0, 0, false, false⟩)], [(30, .b ⟨38, .l [.und, .x 5, .und, .und, .und, .und, .nils], 0, 0, 0, false, false⟩)]⟩
def lf946 : LF := ⟨18, 117, [(2, .sr 5), (7, .x 3), (11, .p 30 0), (12, .i .i64 (.ofNat 0)), (13, .i .i64 (.ofNat 0))], [8, 10], (.exit 2), [(11, .p 30 0), (12, .x 4)], some lh946⟩
noncomputable def tab1 : Tab := addLps ({ tabk with hyp := hy1 }) 3 fi3 [lf462, lf946]
theorem run1 : Go.AX.okB (call tab1 9000 3 [.es, .x 0, .sr 5] ⟨addR 4 [.r 2000000 5 1 true, .r 2000000 5 1 true] .leaf, 4 + List.length (α := Ent) [.r 2000000 5 1 true, .r 2000000 5 1 true], 0, 0⟩) = true := by kernel_rfl
def nu1 (ad_l : Option Addr) (cp_l : Nat) (more : LB) (blk_at_ : Nat) (base_at_ : Nat) (es_at_ : Nat) (at_ : List Int) : List Value := [St' more,
  St' ([] : LB),
  .int .i64 ((more.length : Int)),
  St' ([u8 48, u8 13, u8 10, u8 13, u8 10] ++ more),
  .int .i64 ((nA ([] : List LB))),
  .int .i64 (4)]
def ro1 (ad_l : Option Addr) (cp_l : Nat) (more : LB) (blk_at_ : Nat) (base_at_ : Nat) (es_at_ : Nat) (at_ : List Int) : List Value := [rwI .u8 at_,
  rwS ([] : List LB)]
theorem on1 (ad_l : Option Addr) (cp_l : Nat) (more : LB) (blk_at_ : Nat) (base_at_ : Nat) (es_at_ : Nat) (at_ : List Int) : ∀ j, (nuL (nu1 ad_l cp_l more blk_at_ base_at_ es_at_ at_) j).oneCell' = true := nuL_one (l := nu1 ad_l cp_l more blk_at_ base_at_ es_at_ at_) rfl
theorem path1 (ad_l : Option Addr) (cp_l : Nat) (more : LB) (blk_at_ : Nat) (base_at_ : Nat) (es_at_ : Nat) (at_ : List Int) (b0 : more.length ≤ 9223372036854775807) (b1 : 1 ≤ at_.length) (b2 : ∀ n, n ∈ at_ → 0 ≤ n ∧ n ≤ 255) (b3 : at_.length ≤ 9223372036854775807) (h0 : ¬ (100 < (more.length : Int))) (w : World) (hl : laidE w) (w_at_ : InRow w 1 (at_.map (Value.int .u8)) blk_at_ base_at_ at_.length es_at_) : CwR 3 #[.slice ad_l 0 cp_l, St' more, .slice (some ⟨blk_at_, base_at_, none⟩) at_.length es_at_] w (.bool true) := by
  have hn0 : ([] : LB).length = 0 := rfl; have hL6 : [u8 48, u8 13, u8 10, u8 13, u8 10].length = 5 := rfl
  have hnA := nA_e ([] : List LB)
  have hok : ok3 ([] : List LB) := fun q hq => nomatch hq
  have hps2 := wrs_len ([] : List LB) hok
  have hz1 : (([] : List BL).flatMap wrS).length = 0 := rfl
  have hz2 : (([] : List BL).flatten).length = 0 := rfl
  have hz3 : ([] : List BL).length = 0 := rfl
  have ho : ∀ k r, (k, r) ∈ hy1 → HOk (cx (nuX (nu1 ad_l cp_l more blk_at_ base_at_ es_at_ at_) (rX (ro1 ad_l cp_l more blk_at_ base_at_ es_at_ at_) (fun _ => .bool true))) (nuX_one (on1 ad_l cp_l more blk_at_ base_at_ es_at_ at_)) 3 laidE laidE_stab) k r := by
    unfold hy1
    exact hc (kBytesB (bs := ([] : LB)) .nil (denX rfl)) <|
     hc (kRn (denX rfl)) <|
     hc (lnV rfl rfl (by omega)) <|
     hc (gtcF rfl (by omega)) <|
     hc (kCat (isSx (l := [u8 48, u8 13, u8 10, u8 13, u8 10]) 5 43168435504 rfl) (isX rfl) (denX rfl) (by first | rfl | (simp; done)) (by first | omega | (simp <;> omega))) <|
     hc (eqcT rfl (by omega)) <|
     hc (eqcT rfl (by omega)) <|
     hc (kEqS (isX rfl) (isSx (l := ([] : LB)) 0 0 rfl) (decide_eq_true rfl)) <|
     hnil
  exact runPL (tb := tab1) (AllOk.lp1 ((tabkOk (nuX (nu1 ad_l cp_l more blk_at_ base_at_ es_at_ at_) (rX (ro1 ad_l cp_l more blk_at_ base_at_ es_at_ at_) (fun _ => .bool true))) (nuX_one (on1 ad_l cp_l more blk_at_ base_at_ es_at_ at_))).hyps ho) (by omega) fi3_at fi3_body (lfCons (lpKnown rfl ⟨0, keyLe, lfOkLe_0 (l := lf462) (h := lh462) (0, (0 : Nat)) (mkILe 0 (0 : Nat) ⟨trivial, by omega⟩) rfl (by kernel_rfl) (th0 := []) (sg0 := []) (fun X => thNil) (by kernel_rfl) (thx := []) (thNil) (by kernel_rfl)⟩) (lfCons (lpKnown rfl ⟨1, keyOa, lfOkOa_0 (l := lf946) (h := lh946) ([] : List LB) more at_ (by omega) (0, (0 : Int), (0 : Int)) (mkIOa ([] : List LB) more at_ 0 (0 : Int) (0 : Int) ⟨by omega, by omega, by omega, by omega, by omega, hok, by omega, by omega, fun _ => rfl, fun h => by omega, (fun _ h => (by cases h)), fun h => by omega, fun _ => rfl, fun h => by omega, by assumption, by omega, by omega, by omega⟩) rfl (by kernel_rfl) (th0 := [(0, .x 3), (1, .i .i64 (.ofNat 0)), (2, .i .i64 (.ofNat 0)), (3, .i .i64 (.ofNat 0)), (4, .i .i64 (.ofNat 0)), (2000000, .x 2000000)]) (sg0 := []) (fun X => thXe (v := St' ([u8 48, u8 13, u8 10, u8 13, u8 10] ++ more)) (u := St' (ckS ([] : List LB) ++ more)) rfl rfl (congrArg (fun l => St' l) (ck_mo ([] : List LB) more)) (thCons (show Is _ (.i .i64 (.ofNat 0)) (.int .i64 ((0 : Int))) from isTo (v := .int .i64 0) (isI _ _) (by first | rfl | (congr 1; omega))) (thCons (show Is _ (.i .i64 (.ofNat 0)) (.int .i64 ((0 : Int))) from isTo (v := .int .i64 0) (isI _ _) (by first | rfl | (congr 1; omega))) (thCons (show Is _ (.i .i64 (.ofNat 0)) (.int .i64 ((wA ([] : List LB) (0 : Int)))) from isTo (v := .int .i64 0) (isI _ _) (by first | rfl | (congr 1; omega))) (thCons (show Is _ (.i .i64 (.ofNat 0)) (.int .i64 ((fA ([] : List LB) (0 : Int)))) from isTo (v := .int .i64 0) (isI _ _) (by first | rfl | (congr 1; omega))) (thXv (v := rwI .u8 at_) rfl rfl (thNil))))))) (by kernel_rfl) (thx := [(4, .x 0), (5, .x 1)]) (thXv (v := .int .i64 ((nA ([] : List LB)))) rfl rfl (thXv (v := .int .i64 (4)) rfl rfl (thNil))) (by kernel_rfl)⟩) lfNil))) rfl (get_lps (by omega)) fiB3 [.r 2000000 5 1 true, .r 2000000 5 1 true] [⟨blk_at_, base_at_, at_.length, es_at_⟩, ⟨blk_at_, base_at_, at_.length, es_at_⟩] run1 (args := [.slice ad_l 0 cp_l, St' more, .slice (some ⟨blk_at_, base_at_, none⟩) at_.length es_at_]) ⟨_, _, rfl, ⟨_, _, rfl⟩, ⟨_, _, rfl, rfl, ⟨_, _, rfl, relSrN (by decide) rfl w_at_.room, rfl⟩⟩⟩ w hl rfl (by decide) (argsCons (w_at_.arg (T.get_leaf _) rfl) (argsCons (w_at_.arg (T.get_leaf _) rfl) argsNil)) rfl
def hy2 : LK := [(.bytes [], .x 1),
  (.rn, .x 2000001),
  (.rl (.x 2000000) 1, .x 2),
  (.bin .gtr (.x 2) (.i .i64 (.ofNat 10)), .b false),
  (.len (.x 0), .x 3),
  (.bin .gtr (.x 3) (.i .i64 (.ofNat 100)), .b false),
  (.bin .add (.x 4) (.s 5 43168435504), .x 6),
  (.len (.x 6), .x 7),
  (.bin .add (.x 6) (.x 0), .x 8),
  (.bin .eql (.x 9) (.x 7), .b true),
  (.bin .eql (.x 10) (.i .i64 (.ofNat 4)), .b true),
  (.bin .eql (.x 11) (.x 5), .b true)]
def lh947 : LH := ⟨4, 20, 30, [(4, .r 2000000 9 1 true)], []⟩
def lf947 : LF := ⟨7, 117, [(0, .sr 4), (7, .s 0 0), (8, .s 0 0), (9, .i .i64 (.ofNat 0))], [1, 2], (.exit 0), [(7, .x 4), (8, .x 5)], some lh947⟩
def lh948 : LH := ⟨4, 40, 140, [(30, .b ⟨38, .l [.i .i64 (.ofNat 4000), .i .i64 (.ofNat 0), .nils, .b false, .i .i64 (.ofNat 0), .i .i64 (.ofNat 0), .nils], 0, 0, 0, false, false⟩)], [(30, .b ⟨38, .l [.und, .x 10, .und, .und, .und, .und, .sy 40], 0, 0, 0, false, false⟩), (40, .t 11 5)]⟩
def lf948 : LF := ⟨18, 117, [(2, .es), (7, .x 8), (11, .p 30 0), (12, .i .i64 (.ofNat 0)), (13, .i .i64 (.ofNat 0))], [8, 10], (.exit 2), [(11, .p 30 0), (12, .x 9)], some lh948⟩
noncomputable def tab2 : Tab := addLps ({ tabk with hyp := hy2 }) 3 fi3 [lf947, lf948]
theorem run2 : Go.AX.okB (call tab2 9000 3 [.sr 4, .x 0, .es] ⟨addR 4 [.r 2000000 9 1 true] .leaf, 4 + List.length (α := Ent) [.r 2000000 9 1 true], 0, 0⟩) = true := by kernel_rfl
def nu2 (blk_l : Nat) (base_l : Nat) (es_l : Nat) (l : List LB) (more : LB) (ad_at_ : Option Addr) (cp_at_ : Nat) : List Value := [St' more,
  St' ([] : LB),
  .int .i64 ((l.length : Int)),
  .int .i64 ((more.length : Int)),
  St' (List.flatMap wrS l),
  St' (List.flatten l),
  St' ((List.flatMap wrS l) ++ [u8 48, u8 13, u8 10, u8 13, u8 10]),
  .int .i64 (((List.flatMap wrS l).length : Int) + 5),
  St' ((List.flatMap wrS l) ++ ([u8 48, u8 13, u8 10, u8 13, u8 10] ++ more)),
  .int .i64 ((nA l)),
  .int .i64 (4),
  St' (List.flatten l)]
def ro2 (blk_l : Nat) (base_l : Nat) (es_l : Nat) (l : List LB) (more : LB) (ad_at_ : Option Addr) (cp_at_ : Nat) : List Value := [rwS l,
  rwS ([] : List LB)]
theorem on2 (blk_l : Nat) (base_l : Nat) (es_l : Nat) (l : List LB) (more : LB) (ad_at_ : Option Addr) (cp_at_ : Nat) : ∀ j, (nuL (nu2 blk_l base_l es_l l more ad_at_ cp_at_) j).oneCell' = true := nuL_one (l := nu2 blk_l base_l es_l l more ad_at_ cp_at_) rfl
theorem path2 (blk_l : Nat) (base_l : Nat) (es_l : Nat) (l : List LB) (more : LB) (ad_at_ : Option Addr) (cp_at_ : Nat) (b0 : 1 ≤ l.length) (b1 : ∀ q, q ∈ l → q.length ≤ 140737488351232) (b2 : l.length ≤ 9223372036854775807) (b3 : more.length ≤ 9223372036854775807) (h0 : ¬ (10 < (l.length : Int))) (h1 : ¬ (100 < (more.length : Int))) (h2 : ok3 l) (h3 : ¬ ((List.flatten l).length = 0)) (w : World) (hl : laidE w) (w_l : InRow w 1 (l.map St') blk_l base_l l.length es_l) : CwR 3 #[.slice (some ⟨blk_l, base_l, none⟩) l.length es_l, St' more, .slice ad_at_ 0 cp_at_] w (.bool true) := by
  have hn0 : ([] : LB).length = 0 := rfl; have hL6 : [u8 48, u8 13, u8 10, u8 13, u8 10].length = 5 := rfl
  have hps := wrs_len l (by assumption)
  have hnA := nA_e l
  have hok : ok3 l := by assumption
  have hps2 := wrs_len l hok
  have hFL : (List.flatMap wrS l ++ [u8 48, u8 13, u8 10, u8 13, u8 10]).length = (List.flatMap wrS l).length + 5 := by rw [List.length_append]; rfl
  have ho : ∀ k r, (k, r) ∈ hy2 → HOk (cx (nuX (nu2 blk_l base_l es_l l more ad_at_ cp_at_) (rX (ro2 blk_l base_l es_l l more ad_at_ cp_at_) (fun _ => .bool true))) (nuX_one (on2 blk_l base_l es_l l more ad_at_ cp_at_)) 3 laidE laidE_stab) k r := by
    unfold hy2
    exact hc (kBytesB (bs := ([] : LB)) .nil (denX rfl)) <|
     hc (kRn (denX rfl)) <|
     hc (kRl (isX rfl) (denX rfl) (by first | omega | (simp <;> omega))) <|
     hc (gtcF rfl (by omega)) <|
     hc (lnV rfl rfl (by omega)) <|
     hc (gtcF rfl (by omega)) <|
     hc (kCat (isX rfl) (isSx (l := [u8 48, u8 13, u8 10, u8 13, u8 10]) 5 43168435504 rfl) (denX rfl) (by first | rfl | (simp; done)) (by first | omega | (simp <;> omega))) <|
     hc (lnV rfl rfl (by first | omega | (simp <;> omega))) <|
     hc (kCat (isX rfl) (isX rfl) (denX rfl) (by first | rfl | (simp; done)) (by first | omega | (simp <;> omega))) <|
     hc (eqXT rfl rfl (by omega)) <|
     hc (eqcT rfl (by omega)) <|
     hc (kEqS (isX rfl) (isX rfl) (decide_eq_true rfl)) <|
     hnil
  exact runPL (tb := tab2) (AllOk.lp1 ((tabkOk (nuX (nu2 blk_l base_l es_l l more ad_at_ cp_at_) (rX (ro2 blk_l base_l es_l l more ad_at_ cp_at_) (fun _ => .bool true))) (nuX_one (on2 blk_l base_l es_l l more ad_at_ cp_at_))).hyps ho) (by omega) fi3_at fi3_body (lfCons (lpKnown rfl ⟨0, keyLw, lfOkLw_0 (l := lf947) (h := lh947) l (by assumption) (0, (0 : Int), [], []) (mkILw l 0 (0 : Int) [] [] ⟨by omega, by omega, by omega, by assumption, rfl, rfl, (fun q hq => nomatch hq), by simp, by simp, by omega⟩) rfl (by kernel_rfl) (th0 := [(0, .s 0 0), (1, .s 0 0), (2, .i .i64 (.ofNat 0)), (2000000, .x 2000000)]) (sg0 := []) (fun X => thCons (show Is _ (.s 0 0) (St' []) from isTo (v := St' ([] : LB)) (isSx (l := ([] : LB)) 0 0 rfl) (by first | rfl | (simp; done))) (thCons (show Is _ (.s 0 0) (St' []) from isTo (v := St' ([] : LB)) (isSx (l := ([] : LB)) 0 0 rfl) (by first | rfl | (simp; done))) (thCons (show Is _ (.i .i64 (.ofNat 0)) (.int .i64 ((0 : Int))) from isTo (v := .int .i64 0) (isI _ _) (by first | rfl | (congr 1; omega))) (thXv (v := rwS l) rfl rfl (thNil))))) (by kernel_rfl) (thx := [(4, .x 0), (5, .x 1)]) (thXv (v := St' (List.flatMap wrS l)) rfl rfl (thXv (v := St' (List.flatten l)) rfl rfl (thNil))) (by kernel_rfl)⟩) (lfCons (lpKnown rfl ⟨1, keyOe, lfOkOe_1 (l := lf948) (h := lh948) l more (by assumption) (0, (0 : Int), (0 : Int)) (mkIOe l more 0 (0 : Int) (0 : Int) ⟨by omega, by omega, by omega, by omega, by omega, hok, by omega, by omega, fun _ => rfl, fun h => by omega, (fun _ h => (by cases h)), fun h => by omega, fun _ => rfl, fun h => by omega, by omega⟩) rfl (by kernel_rfl) (th0 := [(0, .x 8), (1, .i .i64 (.ofNat 0)), (2, .i .i64 (.ofNat 0)), (3, .i .i64 (.ofNat 0)), (4, .i .i64 (.ofNat 0))]) (sg0 := []) (fun X => thXe (v := St' ((List.flatMap wrS l) ++ ([u8 48, u8 13, u8 10, u8 13, u8 10] ++ more))) (u := St' (ckS l ++ more)) rfl rfl (congrArg (fun l => St' l) (ck_mo l more)) (thCons (show Is _ (.i .i64 (.ofNat 0)) (.int .i64 ((0 : Int))) from isTo (v := .int .i64 0) (isI _ _) (by first | rfl | (congr 1; omega))) (thCons (show Is _ (.i .i64 (.ofNat 0)) (.int .i64 ((0 : Int))) from isTo (v := .int .i64 0) (isI _ _) (by first | rfl | (congr 1; omega))) (thCons (show Is _ (.i .i64 (.ofNat 0)) (.int .i64 ((wA l (0 : Int)))) from isTo (v := .int .i64 0) (isI _ _) (by first | rfl | (congr 1; omega))) (thCons (show Is _ (.i .i64 (.ofNat 0)) (.int .i64 ((fA l (0 : Int)))) from isTo (v := .int .i64 0) (isI _ _) (by first | rfl | (congr 1; omega))) (thNil)))))) (by kernel_rfl) (thx := [(9, .x 0), (10, .x 1), (11, .x 2)]) (thXv (v := .int .i64 ((nA l))) rfl rfl (thXv (v := .int .i64 (4)) rfl rfl (thXv (v := St' (List.flatten l)) rfl rfl (thNil)))) (by kernel_rfl)⟩) lfNil))) rfl (get_lps (by omega)) fiB3 [.r 2000000 9 1 true] [⟨blk_l, base_l, l.length, es_l⟩] run2 (args := [.slice (some ⟨blk_l, base_l, none⟩) l.length es_l, St' more, .slice ad_at_ 0 cp_at_]) ⟨_, _, rfl, relSrN (by decide) rfl w_l.room, ⟨_, _, rfl, rfl, ⟨_, _, rfl, ⟨_, _, rfl⟩, rfl⟩⟩⟩ w hl rfl (by decide) (argsCons (w_l.arg (T.get_leaf _) rfl) argsNil) rfl
end Go.Proofs.YtamjghigoipbeaaDoor.chunkBack
