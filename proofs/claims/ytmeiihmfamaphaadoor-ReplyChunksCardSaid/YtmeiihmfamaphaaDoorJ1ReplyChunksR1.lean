/- A part of the proof: an interpreter of the model's own code on partly known states, and that what it answers is what the program answers. No condition of its own. -/
import Derived.Test.YtmeiihmfamaphaaDoorJ1ReplyChunksO3
set_option maxRecDepth 100000
set_option linter.unusedVariables false
set_option linter.unusedSimpArgs false
set_option maxHeartbeats 4000000
namespace Go.Proofs.YtmeiihmfamaphaaDoor.replyChunks
open Go Go.AX Go.Proofs Go.Proofs.YtmeiihmfamaphaaDoor
def hy3 : LK := [(.bytes [], .x 1),
  (.rn, .x 2000001),
  (.rl (.x 2000000) 1, .x 2),
  (.bin .gtr (.x 2) (.i .i64 (.ofNat 10)), .b false),
  (.bin .rem (.x 0) (.i .u16 (.ofNat 300)), .x 3),
  (.conv 3 (.x 3), .x 4),
  (.bin .add (.i .i64 (.ofNat 200)) (.x 4), .x 5),
  (.bin .eql (.x 8) (.i .i64 (.ofNat 204)), .b false),
  (.bin .eql (.x 8) (.i .i64 (.ofNat 304)), .b false),
  (.bin .add (.x 6) (.s 5 43168435504), .x 9),
  (.len (.x 11), .x 12),
  (.len (.x 9), .x 13),
  (.bin .eql (.x 12) (.x 13), .b true),
  (.bin .eql (.x 10) (.x 7), .b true)]
def lh1 : LH := ⟨3, 20, 40, [(3, .r 2000000 9 1 true), (4, .b ⟨27, .l [.s 3 5522759, .s 0 0, .i .i64 (.ofNat 1), .nils, .s 0 0], 0, 0, 0, false, false⟩), (5, .b ⟨29, .l [.x 5, .s 1 120, .nils], 0, 0, 0, false, false⟩)], [(4, .b ⟨27, .l [.s 3 5522759, .s 0 0, .i .i64 (.ofNat 1), .nils, .s 0 0], 0, 0, 0, false, false⟩), (5, .b ⟨29, .l [.x 8, .s 1 120, .nils], 0, 0, 0, false, false⟩)]⟩
def lf1 : LF := ⟨9, 97, [(0, .sr 3), (5, .p 4 0), (6, .p 5 0), (7, .s 0 0), (8, .s 0 0), (9, .i .i64 (.ofNat 0))], [], (.exit 0), [(5, .p 4 0), (6, .p 5 0), (7, .x 6), (8, .x 7)], some lh1⟩
def lh6 : LH := ⟨3, 60, 120, [(44, .b ⟨34, .l [.i .i64 (.ofNat 4000), .i .i64 (.ofNat 0), .s 0 0, .b false, .i .i64 (.ofNat 0), .i .i64 (.ofNat 0), .s 0 0, .b false, .b false], 0, 0, 0, false, false⟩)], [(44, .b ⟨34, .l [.und, .i .i64 (.ofNat 4), .und, .und, .und, .und, .x 10, .und, .und], 0, 0, 0, false, false⟩)]⟩
def lf6 : LF := ⟨4, 39, [(0, .p 44 0), (1, .x 9), (6, .i .i64 (.ofNat 0))], [], (.exit 0), [(1, .x 11)], some lh6⟩
noncomputable def tab3 : Tab := addLps (addLps ({ tabk with hyp := hy3 }) 3 fi3 [lf1]) 7 fi7 [lf6]
theorem run3 (e0 : Nat) (e2 : Nat) : Go.AX.okB (call tab3 9000 3 [.sr 3, .x 0] ⟨addR 3 [.r 2000000 9 1 true] (H0 e0 e2 ), 3 + List.length (α := Ent) [.r 2000000 9 1 true], 0, 0⟩) = true := by kernel_rfl
def nu3 (blk_l : Nat) (base_l : Nat) (es_l : Nat) (l : List LB) (status : Int) : List Value := [.int .u16 (status),
  St' ([] : LB),
  .int .i64 ((l.length : Int)),
  .int .u16 (status % 300),
  .int .i64 ((status % 300)),
  .int .i64 ((status % 300) + 200),
  St' (List.flatMap (ptS ((status % 300) + 200)) l),
  St' (List.flatten l),
  .int .i64 ((status % 300) + 200),
  St' ((List.flatMap (ptS ((status % 300) + 200)) l) ++ [u8 48, u8 13, u8 10, u8 13, u8 10]),
  St' (List.flatten l),
  St' ((List.flatMap (ptS ((status % 300) + 200)) l) ++ [u8 48, u8 13, u8 10, u8 13, u8 10]),
  .int .i64 (((List.flatMap (ptS ((status % 300) + 200)) l).length : Int) + 5),
  .int .i64 (((List.flatMap (ptS ((status % 300) + 200)) l).length : Int) + 5)]
def ro3 (blk_l : Nat) (base_l : Nat) (es_l : Nat) (l : List LB) (status : Int) : List Value := [rwS l,
  rwS ([] : List LB)]
theorem on3 (blk_l : Nat) (base_l : Nat) (es_l : Nat) (l : List LB) (status : Int) : ∀ j, (nuL (nu3 blk_l base_l es_l l status) j).oneCell' = true := nuL_one (l := nu3 blk_l base_l es_l l status) rfl
theorem path3 (blk_l : Nat) (base_l : Nat) (es_l : Nat) (l : List LB) (status : Int) (b0 : 1 ≤ l.length) (b1 : ∀ q, q ∈ l → q.length ≤ 140737488351232) (b2 : l.length ≤ 9223372036854775807) (b3 : 0 ≤ status) (b4 : status ≤ 65535) (h0 : ¬ (10 < (l.length : Int))) (h1 : ok3 l) (h2 : ¬ ((status % 300) + 200 = 204)) (h3 : ¬ ((status % 300) + 200 = 304)) (w : World) (hl : laidE w) (w_l : InRow w 1 (l.map St') blk_l base_l l.length es_l) (g_l : ∀ e0 e2, (H0 e0 e2 ).get blk_l = none) : CwR 3 #[.slice (some ⟨blk_l, base_l, none⟩) l.length es_l, .int .u16 status] w (.bool true) := by
  have hn0 : ([] : LB).length = 0 := rfl; have hL6 : [u8 48, u8 13, u8 10, u8 13, u8 10].length = 5 := rfl
  have hps := pts_len ((status % 300) + 200) l (by assumption)
  have hcq := pts_1 (st := ((status % 300) + 200)) (by omega) l
  have hck := congrArg List.length hcq; rw [List.length_append] at hck; have hL5 : LSTS.length = 5 := rfl
  have hhd := hd_le l (by assumption)
  have ho : ∀ k r, (k, r) ∈ hy3 → HOk (cx (nuX (nu3 blk_l base_l es_l l status) (rX (ro3 blk_l base_l es_l l status) (fun _ => .bool true))) (nuX_one (on3 blk_l base_l es_l l status)) 3 laidE laidE_stab) k r := by
    unfold hy3
    exact hc (kBytesB (bs := ([] : LB)) .nil (denX rfl)) <|
     hc (kRn (denX rfl)) <|
     hc (kRl (isX rfl) (denX rfl) (by first | omega | (simp <;> omega))) <|
     hc (gtcF rfl (by omega)) <|
     hc (kRem (isX rfl) (isZ (m := 300) rfl) (denX rfl) (by omega) (by omega) rfl) <|
     hc (kConvF (isX rfl) tu3 (denX rfl) (fI64 (by omega) (by omega))) <|
     hc (kAdd (isZ (m := 200) rfl) (isX rfl) (denX rfl) (by omega) (fI64 (by omega) (by omega))) <|
     hc (eqcF rfl (by omega)) <|
     hc (eqcF rfl (by omega)) <|
     hc (kCat (isX rfl) (isSx (l := [u8 48, u8 13, u8 10, u8 13, u8 10]) 5 43168435504 rfl) (denX rfl) (by first | rfl | (simp; done)) (by first | omega | (simp <;> omega))) <|
     hc (lnV rfl rfl (by first | omega | (simp <;> omega))) <|
     hc (lnV rfl rfl (by first | omega | (simp <;> omega))) <|
     hc (eqXT rfl rfl (by omega)) <|
     hc (kEqS (isX rfl) (isX rfl) (decide_eq_true rfl)) <|
     hnil
  exact runPR (tb := tab3) (AllOk.lp1 (AllOk.lp1 ((tabkOk (nuX (nu3 blk_l base_l es_l l status) (rX (ro3 blk_l base_l es_l l status) (fun _ => .bool true))) (nuX_one (on3 blk_l base_l es_l l status))).hyps ho) (by omega) fi3_at fi3_body (lfCons (lpKnown rfl ⟨0, keyLw, lfOkLw_0 (l := lf1) (h := lh1) l ((status % 300) + 200) (by assumption) (0, (0 : Int), [], []) (mkILw l ((status % 300) + 200) 0 (0 : Int) [] [] ⟨by omega, by omega, by omega, by assumption, by omega, rfl, rfl, (fun q hq => nomatch hq), by simp, by simp, by omega⟩) rfl (by kernel_rfl) (th0 := [(0, .s 0 0), (1, .s 0 0), (2, .i .i64 (.ofNat 0)), (3, .x 5), (2000000, .x 2000000)]) (sg0 := []) (fun X => thCons (show Is _ (.s 0 0) (St' []) from isTo (v := St' ([] : LB)) (isSx (l := ([] : LB)) 0 0 rfl) (by first | rfl | (simp; done))) (thCons (show Is _ (.s 0 0) (St' []) from isTo (v := St' ([] : LB)) (isSx (l := ([] : LB)) 0 0 rfl) (by first | rfl | (simp; done))) (thCons (show Is _ (.i .i64 (.ofNat 0)) (.int .i64 ((0 : Int))) from isTo (v := .int .i64 0) (isI _ _) (by first | rfl | (congr 1; omega))) (thXe (v := .int .i64 ((status % 300) + 200)) (u := .int .i64 (((status % 300) + 200))) rfl rfl (by first | rfl | (congr 1; omega)) (thXv (v := rwS l) rfl rfl (thNil)))))) (by kernel_rfl) (thx := [(6, .x 0), (7, .x 1), (8, .x 2)]) (thXv (v := St' (List.flatMap (ptS ((status % 300) + 200)) l)) rfl rfl (thXv (v := St' (List.flatten l)) rfl rfl (thXe (v := .int .i64 (((status % 300) + 200))) (u := .int .i64 ((status % 300) + 200)) rfl rfl (by first | rfl | (congr 1; omega)) (thNil)))) (by kernel_rfl)⟩) lfNil)) (by omega) (get_lps2 (by omega) (by omega) fi7_at) fi7_body (lfCons (lpKnown rfl ⟨0, keyFd, lfOkFd_0 (l := lf6) (h := lh6) (ckS l) (List.flatten l) (0, (0 : Int), [], (hexS ((hdC l).length : Int)), (hdC l), (tlC l), []) (mkIFd (ckS l) (List.flatten l) 0 (0 : Int) [] (hexS ((hdC l).length : Int)) (hdC l) (tlC l) [] ⟨by omega, by omega, by omega, fl_hd l, hhd.1, hhd.2, ck_start l, fun _ => rfl, fun h => by omega, fun _ => tl_nil l, fun h => by omega, fun h => by omega, fun h => by omega, by omega⟩) rfl (by kernel_rfl) (th0 := [(0, .x 9), (1, .i .i64 (.ofNat 0)), (2, .s 0 0), (3, .s 0 0)]) (sg0 := []) (fun X => thXe (v := St' ((List.flatMap (ptS ((status % 300) + 200)) l) ++ [u8 48, u8 13, u8 10, u8 13, u8 10])) (u := St' (ckS l)) rfl rfl (congrArg (fun l => St' l) hcq) (thCons (show Is _ (.i .i64 (.ofNat 0)) (.int .i64 ((0 : Int))) from isTo (v := .int .i64 0) (isI _ _) (by first | rfl | (congr 1; omega))) (thCons (show Is _ (.s 0 0) (St' []) from isTo (v := St' ([] : LB)) (isSx (l := ([] : LB)) 0 0 rfl) (by first | rfl | (simp; done))) (thCons (show Is _ (.s 0 0) (St' []) from isTo (v := St' ([] : LB)) (isSx (l := ([] : LB)) 0 0 rfl) (by first | rfl | (simp; done))) (thNil))))) (by kernel_rfl) (thx := [(10, .x 0), (11, .x 1)]) (thXv (v := St' (List.flatten l)) rfl rfl (thXe (v := St' (ckS l)) (u := St' ((List.flatMap (ptS ((status % 300) + 200)) l) ++ [u8 48, u8 13, u8 10, u8 13, u8 10])) rfl rfl ((congrArg (fun l => St' l) hcq).symm) (thNil))) (by kernel_rfl)⟩) lfNil)) rfl (get_lps2 (by omega) (by omega) (get_lps (by omega))) fiB3 [.r 2000000 9 1 true] [⟨blk_l, base_l, l.length, es_l⟩] (fun e0 e2 => run3 e0 e2 ) (args := [.slice (some ⟨blk_l, base_l, none⟩) l.length es_l, .int .u16 status]) ⟨_, _, rfl, relSrN (by decide) rfl w_l.room, ⟨_, _, rfl, rfl, rfl⟩⟩ w hl rfl (by decide) (fun e0 e2 => (argsCons (w_l.arg (g_l e0 e2 ) rfl) argsNil)) rfl
def hy4 : LK := [(.bytes [], .x 1),
  (.rn, .x 2000001),
  (.rl (.x 2000000) 1, .x 2),
  (.bin .gtr (.x 2) (.i .i64 (.ofNat 10)), .b false),
  (.bin .rem (.x 0) (.i .u16 (.ofNat 300)), .x 3),
  (.conv 3 (.x 3), .x 4),
  (.bin .add (.i .i64 (.ofNat 200)) (.x 4), .x 5),
  (.bin .eql (.x 8) (.i .i64 (.ofNat 204)), .b true),
  (.bin .add (.x 6) (.s 0 0), .x 9),
  (.bin .eql (.x 9) (.s 0 0), .b true)]
def lh7 : LH := ⟨3, 20, 40, [(3, .r 2000000 9 1 true), (4, .b ⟨27, .l [.s 3 5522759, .s 0 0, .i .i64 (.ofNat 1), .nils, .s 0 0], 0, 0, 0, false, false⟩), (5, .b ⟨29, .l [.x 5, .s 1 120, .nils], 0, 0, 0, false, false⟩)], [(4, .b ⟨27, .l [.s 3 5522759, .s 0 0, .i .i64 (.ofNat 1), .nils, .s 0 0], 0, 0, 0, false, false⟩), (5, .b ⟨29, .l [.x 8, .s 1 120, .nils], 0, 0, 0, false, false⟩)]⟩
def lf7 : LF := ⟨9, 97, [(0, .sr 3), (5, .p 4 0), (6, .p 5 0), (7, .s 0 0), (8, .s 0 0), (9, .i .i64 (.ofNat 0))], [], (.exit 0), [(5, .p 4 0), (6, .p 5 0), (7, .x 6), (8, .x 7)], some lh7⟩
noncomputable def tab4 : Tab := addLps ({ tabk with hyp := hy4 }) 3 fi3 [lf7]
theorem run4 (e0 : Nat) (e2 : Nat) : Go.AX.okB (call tab4 9000 3 [.sr 3, .x 0] ⟨addR 3 [.r 2000000 9 1 true] (H0 e0 e2 ), 3 + List.length (α := Ent) [.r 2000000 9 1 true], 0, 0⟩) = true := by kernel_rfl
def nu4 (blk_l : Nat) (base_l : Nat) (es_l : Nat) (l : List LB) (status : Int) : List Value := [.int .u16 (status),
  St' ([] : LB),
  .int .i64 ((l.length : Int)),
  .int .u16 (status % 300),
  .int .i64 ((status % 300)),
  .int .i64 ((status % 300) + 200),
  St' (List.flatMap (ptS ((status % 300) + 200)) l),
  St' (List.flatten l),
  .int .i64 ((status % 300) + 200),
  St' (List.flatMap (ptS ((status % 300) + 200)) l)]
def ro4 (blk_l : Nat) (base_l : Nat) (es_l : Nat) (l : List LB) (status : Int) : List Value := [rwS l,
  rwS ([] : List LB)]
theorem on4 (blk_l : Nat) (base_l : Nat) (es_l : Nat) (l : List LB) (status : Int) : ∀ j, (nuL (nu4 blk_l base_l es_l l status) j).oneCell' = true := nuL_one (l := nu4 blk_l base_l es_l l status) rfl
theorem path4 (blk_l : Nat) (base_l : Nat) (es_l : Nat) (l : List LB) (status : Int) (b0 : 1 ≤ l.length) (b1 : ∀ q, q ∈ l → q.length ≤ 140737488351232) (b2 : l.length ≤ 9223372036854775807) (b3 : 0 ≤ status) (b4 : status ≤ 65535) (h0 : ¬ (10 < (l.length : Int))) (h1 : ok3 l) (h2 : (status % 300) + 200 = 204) (w : World) (hl : laidE w) (w_l : InRow w 1 (l.map St') blk_l base_l l.length es_l) (g_l : ∀ e0 e2, (H0 e0 e2 ).get blk_l = none) : CwR 3 #[.slice (some ⟨blk_l, base_l, none⟩) l.length es_l, .int .u16 status] w (.bool true) := by
  have hn0 : ([] : LB).length = 0 := rfl; have hL6 : [u8 48, u8 13, u8 10, u8 13, u8 10].length = 5 := rfl
  have hps := pts_len ((status % 300) + 200) l (by assumption)
  have hz : (List.flatMap (ptS ((status % 300) + 200)) l).length = 0 := by rw [pts_0 (by omega) l]; rfl
  have ho : ∀ k r, (k, r) ∈ hy4 → HOk (cx (nuX (nu4 blk_l base_l es_l l status) (rX (ro4 blk_l base_l es_l l status) (fun _ => .bool true))) (nuX_one (on4 blk_l base_l es_l l status)) 3 laidE laidE_stab) k r := by
    unfold hy4
    exact hc (kBytesB (bs := ([] : LB)) .nil (denX rfl)) <|
     hc (kRn (denX rfl)) <|
     hc (kRl (isX rfl) (denX rfl) (by first | omega | (simp <;> omega))) <|
     hc (gtcF rfl (by omega)) <|
     hc (kRem (isX rfl) (isZ (m := 300) rfl) (denX rfl) (by omega) (by omega) rfl) <|
     hc (kConvF (isX rfl) tu3 (denX rfl) (fI64 (by omega) (by omega))) <|
     hc (kAdd (isZ (m := 200) rfl) (isX rfl) (denX rfl) (by omega) (fI64 (by omega) (by omega))) <|
     hc (eqcT rfl (by omega)) <|
     hc (kCat (isX rfl) (isSx (l := ([] : LB)) 0 0 rfl) (denX rfl) (by first | rfl | (simp; done)) (by omega)) <|
     hc (kEqS (isX rfl) (isSx (l := ([] : LB)) 0 0 rfl) (nilT (by omega))) <|
     hnil
  exact runPR (tb := tab4) (AllOk.lp1 ((tabkOk (nuX (nu4 blk_l base_l es_l l status) (rX (ro4 blk_l base_l es_l l status) (fun _ => .bool true))) (nuX_one (on4 blk_l base_l es_l l status))).hyps ho) (by omega) fi3_at fi3_body (lfCons (lpKnown rfl ⟨0, keyLw, lfOkLw_0 (l := lf7) (h := lh7) l ((status % 300) + 200) (by assumption) (0, (0 : Int), [], []) (mkILw l ((status % 300) + 200) 0 (0 : Int) [] [] ⟨by omega, by omega, by omega, by assumption, by omega, rfl, rfl, (fun q hq => nomatch hq), by simp, by simp, by omega⟩) rfl (by kernel_rfl) (th0 := [(0, .s 0 0), (1, .s 0 0), (2, .i .i64 (.ofNat 0)), (3, .x 5), (2000000, .x 2000000)]) (sg0 := []) (fun X => thCons (show Is _ (.s 0 0) (St' []) from isTo (v := St' ([] : LB)) (isSx (l := ([] : LB)) 0 0 rfl) (by first | rfl | (simp; done))) (thCons (show Is _ (.s 0 0) (St' []) from isTo (v := St' ([] : LB)) (isSx (l := ([] : LB)) 0 0 rfl) (by first | rfl | (simp; done))) (thCons (show Is _ (.i .i64 (.ofNat 0)) (.int .i64 ((0 : Int))) from isTo (v := .int .i64 0) (isI _ _) (by first | rfl | (congr 1; omega))) (thXe (v := .int .i64 ((status % 300) + 200)) (u := .int .i64 (((status % 300) + 200))) rfl rfl (by first | rfl | (congr 1; omega)) (thXv (v := rwS l) rfl rfl (thNil)))))) (by kernel_rfl) (thx := [(6, .x 0), (7, .x 1), (8, .x 2)]) (thXv (v := St' (List.flatMap (ptS ((status % 300) + 200)) l)) rfl rfl (thXv (v := St' (List.flatten l)) rfl rfl (thXe (v := .int .i64 (((status % 300) + 200))) (u := .int .i64 ((status % 300) + 200)) rfl rfl (by first | rfl | (congr 1; omega)) (thNil)))) (by kernel_rfl)⟩) lfNil)) rfl (get_lps (by omega)) fiB3 [.r 2000000 9 1 true] [⟨blk_l, base_l, l.length, es_l⟩] (fun e0 e2 => run4 e0 e2 ) (args := [.slice (some ⟨blk_l, base_l, none⟩) l.length es_l, .int .u16 status]) ⟨_, _, rfl, relSrN (by decide) rfl w_l.room, ⟨_, _, rfl, rfl, rfl⟩⟩ w hl rfl (by decide) (fun e0 e2 => (argsCons (w_l.arg (g_l e0 e2 ) rfl) argsNil)) rfl
def hy5 : LK := [(.bytes [], .x 1),
  (.rn, .x 2000001),
  (.rl (.x 2000000) 1, .x 2),
  (.bin .gtr (.x 2) (.i .i64 (.ofNat 10)), .b false),
  (.bin .rem (.x 0) (.i .u16 (.ofNat 300)), .x 3),
  (.conv 3 (.x 3), .x 4),
  (.bin .add (.i .i64 (.ofNat 200)) (.x 4), .x 5),
  (.bin .eql (.x 8) (.i .i64 (.ofNat 204)), .b false),
  (.bin .eql (.x 8) (.i .i64 (.ofNat 304)), .b true),
  (.bin .add (.x 6) (.s 0 0), .x 9),
  (.bin .eql (.x 9) (.s 0 0), .b true)]
def lh8 : LH := ⟨3, 20, 40, [(3, .r 2000000 9 1 true), (4, .b ⟨27, .l [.s 3 5522759, .s 0 0, .i .i64 (.ofNat 1), .nils, .s 0 0], 0, 0, 0, false, false⟩), (5, .b ⟨29, .l [.x 5, .s 1 120, .nils], 0, 0, 0, false, false⟩)], [(4, .b ⟨27, .l [.s 3 5522759, .s 0 0, .i .i64 (.ofNat 1), .nils, .s 0 0], 0, 0, 0, false, false⟩), (5, .b ⟨29, .l [.x 8, .s 1 120, .nils], 0, 0, 0, false, false⟩)]⟩
def lf8 : LF := ⟨9, 97, [(0, .sr 3), (5, .p 4 0), (6, .p 5 0), (7, .s 0 0), (8, .s 0 0), (9, .i .i64 (.ofNat 0))], [], (.exit 0), [(5, .p 4 0), (6, .p 5 0), (7, .x 6), (8, .x 7)], some lh8⟩
noncomputable def tab5 : Tab := addLps ({ tabk with hyp := hy5 }) 3 fi3 [lf8]
theorem run5 (e0 : Nat) (e2 : Nat) : Go.AX.okB (call tab5 9000 3 [.sr 3, .x 0] ⟨addR 3 [.r 2000000 9 1 true] (H0 e0 e2 ), 3 + List.length (α := Ent) [.r 2000000 9 1 true], 0, 0⟩) = true := by kernel_rfl
def nu5 (blk_l : Nat) (base_l : Nat) (es_l : Nat) (l : List LB) (status : Int) : List Value := [.int .u16 (status),
  St' ([] : LB),
  .int .i64 ((l.length : Int)),
  .int .u16 (status % 300),
  .int .i64 ((status % 300)),
  .int .i64 ((status % 300) + 200),
  St' (List.flatMap (ptS ((status % 300) + 200)) l),
  St' (List.flatten l),
  .int .i64 ((status % 300) + 200),
  St' (List.flatMap (ptS ((status % 300) + 200)) l)]
def ro5 (blk_l : Nat) (base_l : Nat) (es_l : Nat) (l : List LB) (status : Int) : List Value := [rwS l,
  rwS ([] : List LB)]
theorem on5 (blk_l : Nat) (base_l : Nat) (es_l : Nat) (l : List LB) (status : Int) : ∀ j, (nuL (nu5 blk_l base_l es_l l status) j).oneCell' = true := nuL_one (l := nu5 blk_l base_l es_l l status) rfl
theorem path5 (blk_l : Nat) (base_l : Nat) (es_l : Nat) (l : List LB) (status : Int) (b0 : 1 ≤ l.length) (b1 : ∀ q, q ∈ l → q.length ≤ 140737488351232) (b2 : l.length ≤ 9223372036854775807) (b3 : 0 ≤ status) (b4 : status ≤ 65535) (h0 : ¬ (10 < (l.length : Int))) (h1 : ok3 l) (h2 : ¬ ((status % 300) + 200 = 204)) (h3 : (status % 300) + 200 = 304) (w : World) (hl : laidE w) (w_l : InRow w 1 (l.map St') blk_l base_l l.length es_l) (g_l : ∀ e0 e2, (H0 e0 e2 ).get blk_l = none) : CwR 3 #[.slice (some ⟨blk_l, base_l, none⟩) l.length es_l, .int .u16 status] w (.bool true) := by
  have hn0 : ([] : LB).length = 0 := rfl; have hL6 : [u8 48, u8 13, u8 10, u8 13, u8 10].length = 5 := rfl
  have hps := pts_len ((status % 300) + 200) l (by assumption)
  have hz : (List.flatMap (ptS ((status % 300) + 200)) l).length = 0 := by rw [pts_0 (by omega) l]; rfl
  have ho : ∀ k r, (k, r) ∈ hy5 → HOk (cx (nuX (nu5 blk_l base_l es_l l status) (rX (ro5 blk_l base_l es_l l status) (fun _ => .bool true))) (nuX_one (on5 blk_l base_l es_l l status)) 3 laidE laidE_stab) k r := by
    unfold hy5
    exact hc (kBytesB (bs := ([] : LB)) .nil (denX rfl)) <|
     hc (kRn (denX rfl)) <|
     hc (kRl (isX rfl) (denX rfl) (by first | omega | (simp <;> omega))) <|
     hc (gtcF rfl (by omega)) <|
     hc (kRem (isX rfl) (isZ (m := 300) rfl) (denX rfl) (by omega) (by omega) rfl) <|
     hc (kConvF (isX rfl) tu3 (denX rfl) (fI64 (by omega) (by omega))) <|
     hc (kAdd (isZ (m := 200) rfl) (isX rfl) (denX rfl) (by omega) (fI64 (by omega) (by omega))) <|
     hc (eqcF rfl (by omega)) <|
     hc (eqcT rfl (by omega)) <|
     hc (kCat (isX rfl) (isSx (l := ([] : LB)) 0 0 rfl) (denX rfl) (by first | rfl | (simp; done)) (by omega)) <|
     hc (kEqS (isX rfl) (isSx (l := ([] : LB)) 0 0 rfl) (nilT (by omega))) <|
     hnil
  exact runPR (tb := tab5) (AllOk.lp1 ((tabkOk (nuX (nu5 blk_l base_l es_l l status) (rX (ro5 blk_l base_l es_l l status) (fun _ => .bool true))) (nuX_one (on5 blk_l base_l es_l l status))).hyps ho) (by omega) fi3_at fi3_body (lfCons (lpKnown rfl ⟨0, keyLw, lfOkLw_0 (l := lf8) (h := lh8) l ((status % 300) + 200) (by assumption) (0, (0 : Int), [], []) (mkILw l ((status % 300) + 200) 0 (0 : Int) [] [] ⟨by omega, by omega, by omega, by assumption, by omega, rfl, rfl, (fun q hq => nomatch hq), by simp, by simp, by omega⟩) rfl (by kernel_rfl) (th0 := [(0, .s 0 0), (1, .s 0 0), (2, .i .i64 (.ofNat 0)), (3, .x 5), (2000000, .x 2000000)]) (sg0 := []) (fun X => thCons (show Is _ (.s 0 0) (St' []) from isTo (v := St' ([] : LB)) (isSx (l := ([] : LB)) 0 0 rfl) (by first | rfl | (simp; done))) (thCons (show Is _ (.s 0 0) (St' []) from isTo (v := St' ([] : LB)) (isSx (l := ([] : LB)) 0 0 rfl) (by first | rfl | (simp; done))) (thCons (show Is _ (.i .i64 (.ofNat 0)) (.int .i64 ((0 : Int))) from isTo (v := .int .i64 0) (isI _ _) (by first | rfl | (congr 1; omega))) (thXe (v := .int .i64 ((status % 300) + 200)) (u := .int .i64 (((status % 300) + 200))) rfl rfl (by first | rfl | (congr 1; omega)) (thXv (v := rwS l) rfl rfl (thNil)))))) (by kernel_rfl) (thx := [(6, .x 0), (7, .x 1), (8, .x 2)]) (thXv (v := St' (List.flatMap (ptS ((status % 300) + 200)) l)) rfl rfl (thXv (v := St' (List.flatten l)) rfl rfl (thXe (v := .int .i64 (((status % 300) + 200))) (u := .int .i64 ((status % 300) + 200)) rfl rfl (by first | rfl | (congr 1; omega)) (thNil)))) (by kernel_rfl)⟩) lfNil)) rfl (get_lps (by omega)) fiB3 [.r 2000000 9 1 true] [⟨blk_l, base_l, l.length, es_l⟩] (fun e0 e2 => run5 e0 e2 ) (args := [.slice (some ⟨blk_l, base_l, none⟩) l.length es_l, .int .u16 status]) ⟨_, _, rfl, relSrN (by decide) rfl w_l.room, ⟨_, _, rfl, rfl, rfl⟩⟩ w hl rfl (by decide) (fun e0 e2 => (argsCons (w_l.arg (g_l e0 e2 ) rfl) argsNil)) rfl
end Go.Proofs.YtmeiihmfamaphaaDoor.replyChunks
