/- A part of the proof: an interpreter of the model's own code on partly known states, and that what it answers is what the program answers. No condition of its own. -/
import Derived.Test.YtacflaaahanhgaaDoorC2OctetListsO2
set_option maxRecDepth 100000
set_option linter.unusedVariables false
set_option linter.unusedSimpArgs false
set_option maxHeartbeats 4000000
namespace Go.Proofs.YtacflaaahanhgaaDoor.octetLists
open Go Go.AX Go.Proofs Go.Proofs.YtacflaaahanhgaaDoor
def hy3 : LK := [(.rn, .x 2000001),
  (.rl (.x 2000000) 1, .x 0),
  (.bin .gtr (.x 0) (.i .i64 (.ofNat 30)), .b false),
  (.call 65 [.x 2, .s 2 2336], .x 3),
  (.bin .neq (.x 3) (.s 0 0), .b true),
  (.ra (.x 2000004) [.x 3], .x 2000005),
  (.rf (.x 2000005) 1 16, .b true),
  (.rl (.x 2000005) 1, .x 4),
  (.rl (.x 2000003) 1, .x 5),
  (.bin .neq (.x 4) (.x 5), .b false)]
def lh3 : LH := ⟨7, 8, 21, [(7, .r 2000000 5 1 true)], [(7, .r 2000002 5 1 true), (8, .r 2000003 9 1 false)]⟩
def lf3 : LF := ⟨8, 64, [(0, .sr 7), (3, .s 0 0), (5, .i .i64 (.ofNat 0)), (4, .nils)], [], (.exit 0), [(0, .sr 7), (3, .x 1), (4, .sr 8)], some lh3⟩
def lh4 : LH := ⟨7, 26, 38, [(21, .b ⟨35, .l [.nils], 0, 0, 0, false, false⟩), (22, .b ⟨9, .l [.x 1], 0, 0, 0, false, false⟩), (23, .b ⟨9, .l [.s 1 44], 0, 0, 0, false, false⟩), (24, .b ⟨3, .l [.i .i64 (.ofNat 0)], 0, 0, 0, false, false⟩), (25, .k 30 [(3, .p 21 0)] 17 0 .normal)], [(21, .b ⟨35, .l [.sr 26], 0, 0, 0, false, false⟩), (22, .b ⟨9, .l [.x 2], 0, 0, 0, false, false⟩), (23, .b ⟨9, .l [.s 1 44], 0, 0, 0, false, false⟩), (24, .b ⟨3, .l [.i .i64 (.ofNat 0)], 0, 0, 0, false, false⟩), (25, .k 30 [(3, .p 21 0)] 17 0 .normal), (26, .r 2000004 9 1 false)]⟩
def lf4 : LF := ⟨5, 52, [(0, .yl 25), (1, .p 23 0), (2, .p 22 0), (3, .p 24 0), (9, .s 1 44)], [], (.exit 2), [(0, .yl 25), (2, .p 22 0)], some lh4⟩
def lh5 : LH := ⟨7, 67, 69, [(39, .r 2000005 9 1 false), (8, .r 2000003 9 1 false)], []⟩
def lf5 : LF := ⟨4, 26, [(0, .sr 39), (1, .sr 8), (5, .i .i64 (.ofNat 0))], [], (.exit 0), [], some lh5⟩
noncomputable def tab3 : Tab := addLps (addLps (addLps (addLps ({ tabk with hyp := hy3 }) 30 fi30 [⟨7777777, 30, [], [3], .goto 7777777, [], none⟩]) 6 fi6 [lf3]) 124 fi124 [lf4]) 29 fi29 [lf5]
theorem run3 : Go.AX.okB (call tab3 9000 6 [.sr 7] ⟨addR 7 [.r 2000000 5 1 true] (H0 ), 7 + List.length (α := Ent) [.r 2000000 5 1 true], 0, 0⟩) = true := by kernel_rfl
def nu3 (blk_l : Nat) (base_l : Nat) (es_l : Nat) (l : List Int) : List Value := [.int .i64 ((l.length : Int)),
  St' (jnT true [] l),
  St' ((lsI [] (jnT true [] l)).2),
  St' (trQ ((lsI [] (jnT true [] l)).2)),
  .int .i64 ((((lsI [] (jnT true [] l)).1).length : Int) + 1),
  .int .i64 (((wtT l).length : Int))]
def ro3 (blk_l : Nat) (base_l : Nat) (es_l : Nat) (l : List Int) : List Value := [rwI .u8 l,
  rwS ([] : List LB),
  rwI .u8 l,
  rwS (wtT l),
  rwS ((lsI [] (jnT true [] l)).1),
  rwS (((lsI [] (jnT true [] l)).1) ++ [(trQ ((lsI [] (jnT true [] l)).2))])]
theorem on3 (blk_l : Nat) (base_l : Nat) (es_l : Nat) (l : List Int) : ∀ j, (nuL (nu3 blk_l base_l es_l l) j).oneCell' = true := nuL_one (l := nu3 blk_l base_l es_l l) rfl
theorem path3 (blk_l : Nat) (base_l : Nat) (es_l : Nat) (l : List Int) (b0 : ∀ n, n ∈ l → 0 ≤ n ∧ n ≤ 255) (b1 : l.length ≤ 9223372036854775807) (h0 : ¬ (30 < (l.length : Int))) (h1 : ¬ ((wtT l).length = 0)) (h2 : ¬ (((lsI [] (jnT true [] l)).1).length = 0)) (h3 : ¬ (((trQ ((lsI [] (jnT true [] l)).2)).length : Int) = 0)) (w : World) (hl : laidE w) (w_l : InRow w 1 (l.map (Value.int .u8)) blk_l base_l l.length es_l) (g_l : (H0 ).get blk_l = none) : CwR 6 #[.slice (some ⟨blk_l, base_l, none⟩) l.length es_l] w (.bool true) := by
  have hjl := jnT_len l true []; simp only [List.length_nil, Nat.zero_add] at hjl
  have := wtT_len l
  have hjw := congrArg List.length (lsQ_jn l (by assumption))
  have hls := lsI_len (jnT true [] l) []; simp only [List.length_nil, Nat.zero_add] at hls
  have := lsq_len (jnT true [] l)
  have := trQ_len ((lsI [] (jnT true [] l)).2)
  have ho : ∀ k r, (k, r) ∈ hy3 → HOk (cx (nuX (nu3 blk_l base_l es_l l) (rX (ro3 blk_l base_l es_l l) (fun _ => .bool true))) (nuX_one (on3 blk_l base_l es_l l)) 0 laidE laidE_stab) k r := by
    unfold hy3
    exact hc (kRn (denX rfl)) <|
     hc (kRlI (isX rfl) (denX rfl) (by first | omega | (simp <;> omega))) <|
     hc (gtcF rfl (by omega)) <|
     hc (hokTrim (s := ((lsI [] (jnT true [] l)).2)) (isX rfl) (isSx (l := [u8 32, u8 9]) 2 2336 rfl) (denX (congrArg (fun l => St' l) (trSQ _).symm)) (by omega) (by omega)) <|
     hc (kNeS (isX rfl) (isSx (l := ([] : LB)) 0 0 rfl) (bnT (nilF (by omega)))) <|
     hc (kRa (isX rfl) (isX rfl) (denX rfl)) <|
     hc (kRf (isX rfl) (by first | omega | (simp <;> omega)) (by first | omega | (simp <;> omega))) <|
     hc (kRl (isX rfl) (denX rfl) (by first | omega | (simp <;> omega))) <|
     hc (kRl (isX rfl) (denX rfl) (by first | omega | (simp <;> omega))) <|
     hc (kNeI (isX rfl) (isX rfl) (neF (by omega))) <|
     hnil
  exact runPR (tb := tab3) (AllOk.lp1 (AllOk.lp1 (AllOk.lp1 (AllOk.lp1 ((tabkOk (nuX (nu3 blk_l base_l es_l l) (rX (ro3 blk_l base_l es_l l) (fun _ => .bool true))) (nuX_one (on3 blk_l base_l es_l l))).hyps ho) (by omega) fi30_at fi30_body (lfCons (.inr ⟨mkA30, mkB30, _, Tryd.func30, mkC30⟩) lfNil)) (by omega) (get_lps2 (by omega) (by omega) fi6_at) fi6_body (lfCons (lpKnown rfl ⟨0, keyOl, lfOkOl_1 (l := lf3) (h := lh3) l (jnT true [] l) (wtT l) (by assumption) (0, (0 : Int), ([] : LB), ([] : List LB)) (mkIOl l (jnT true [] l) (wtT l) 0 (0 : Int) ([] : LB) ([] : List LB) ⟨by omega, by omega, by omega, by assumption, rfl, rfl, by simp, by simp, fun _ => rfl, fun h => by omega, by omega⟩) rfl (by kernel_rfl) (th0 := [(0, .s 0 0), (1, .i .i64 (.ofNat 0)), (2000000, .x 2000000)]) (sg0 := []) (fun X => thCons (show Is _ (.s 0 0) (St' ([] : LB)) from isTo (v := St' ([] : LB)) (isSx (l := ([] : LB)) 0 0 rfl) (by first | rfl | (simp; done))) (thCons (show Is _ (.i .i64 (.ofNat 0)) (.int .i64 ((0 : Int))) from isTo (v := .int .i64 0) (isI _ _) (by first | rfl | (congr 1; omega))) (thXv (v := rwI .u8 l) rfl rfl (thNil)))) (by kernel_rfl) (thx := [(1, .x 0), (2000002, .x 2000000), (2000003, .x 2000001)]) (thXv (v := St' (jnT true [] l)) rfl rfl (thXv (v := rwI .u8 l) rfl rfl (thXv (v := rwS (wtT l)) rfl rfl (thNil)))) (by kernel_rfl)⟩) lfNil)) (by omega) (get_lps2 (by omega) (by omega) (get_lps2 (by omega) (by omega) fi124_at)) fi124_body (lfCons (lpKnown rfl ⟨1, keySp21, lfOkSp21_1 (l := lf4) (h := lh4) ((lsI [] (jnT true [] l)).1) ((lsI [] (jnT true [] l)).2) (by first | assumption | omega) (0, (jnT true [] l), ([] : List LB)) (mkISp21 ((lsI [] (jnT true [] l)).1) ((lsI [] (jnT true [] l)).2) 0 (jnT true [] l) ([] : List LB) ⟨by simp, rfl, by omega, by simp only [List.length_nil]; omega, fun _ => rfl, fun h => by omega, by omega⟩) rfl (by kernel_rfl) (th0 := [(0, .x 1)]) (sg0 := []) (fun X => thXv (v := St' (jnT true [] l)) rfl rfl (thNil)) (by kernel_rfl) (thx := [(2, .x 0), (2000004, .x 2000000)]) (thXv (v := St' ((lsI [] (jnT true [] l)).2)) rfl rfl (thXv (v := rwS ((lsI [] (jnT true [] l)).1)) rfl rfl (thNil))) (by kernel_rfl)⟩) lfNil)) (by omega) (get_lps2 (by omega) (by omega) (get_lps2 (by omega) (by omega) (get_lps2 (by omega) (by omega) fi29_at))) fi29_body (lfCons (lpKnown rfl ⟨0, keySm, lfOkSm_0 (l := lf5) (h := lh5) (wtT l) (0, (0 : Int)) (mkISm (wtT l) 0 (0 : Int) ⟨by omega, by omega, by omega, by omega⟩) rfl (by kernel_rfl) (th0 := [(0, .i .i64 (.ofNat 0)), (2000000, .x 2000005), (2000001, .x 2000003)]) (sg0 := [(67, 39), (68, 8)]) (fun X => thCons (show Is _ (.i .i64 (.ofNat 0)) (.int .i64 ((0 : Int))) from isTo (v := .int .i64 0) (isI _ _) (by first | rfl | (congr 1; omega))) (thXe (v := rwS (((lsI [] (jnT true [] l)).1) ++ [(trQ ((lsI [] (jnT true [] l)).2))])) (u := rwS (wtT l)) rfl rfl (congrArg rwS (by rw [← lsQ_jn l (by assumption), lsI_Q]; first | (rw [keepQ_no (by omega)]; simp; done) | (rw [keepQ_yes (by omega)]; done) | (rw [keepQ_yes (by omega), List.eq_nil_of_length_eq_zero (by assumption : ((lsI [] (jnT true [] l)).1).length = 0)]; done) | (rw [keepQ_yes (by omega), List.eq_nil_of_length_eq_zero (by assumption : ((lsI [] (jnT true [] l)).1).length = 0)]; rfl))) (thXv (v := rwS (wtT l)) rfl rfl (thNil)))) (by kernel_rfl) (thx := []) (thNil) (by kernel_rfl)⟩) lfNil)) rfl (get_lps2 (by omega) (by omega) (get_lps2 (by omega) (by omega) (get_lps (by omega)))) fiB6 [.r 2000000 5 1 true] [⟨blk_l, base_l, l.length, es_l⟩] (run3 ) (args := [.slice (some ⟨blk_l, base_l, none⟩) l.length es_l]) ⟨_, _, rfl, relSr w_l.room, rfl⟩ w hl rfl (by decide) (args1 (w_l.arg (g_l ) rfl)) nodup1
def hy4 : LK := [(.rn, .x 2000001),
  (.rl (.x 2000000) 1, .x 0),
  (.bin .gtr (.x 0) (.i .i64 (.ofNat 30)), .b false),
  (.call 65 [.x 2, .s 2 2336], .x 3),
  (.bin .neq (.x 3) (.s 0 0), .b false)]
def lh6 : LH := ⟨7, 8, 21, [(7, .r 2000000 5 1 true)], [(7, .r 2000002 5 1 true)]⟩
def lf6 : LF := ⟨8, 64, [(0, .sr 7), (3, .s 0 0), (5, .i .i64 (.ofNat 0)), (4, .nils)], [], (.exit 0), [(0, .sr 7), (3, .x 1), (4, .nils)], some lh6⟩
def lh7 : LH := ⟨7, 26, 38, [(21, .b ⟨35, .l [.nils], 0, 0, 0, false, false⟩), (22, .b ⟨9, .l [.x 1], 0, 0, 0, false, false⟩), (23, .b ⟨9, .l [.s 1 44], 0, 0, 0, false, false⟩), (24, .b ⟨3, .l [.i .i64 (.ofNat 0)], 0, 0, 0, false, false⟩), (25, .k 30 [(3, .p 21 0)] 17 0 .normal)], [(21, .b ⟨35, .l [.nils], 0, 0, 0, false, false⟩), (22, .b ⟨9, .l [.x 2], 0, 0, 0, false, false⟩), (23, .b ⟨9, .l [.s 1 44], 0, 0, 0, false, false⟩), (24, .b ⟨3, .l [.i .i64 (.ofNat 0)], 0, 0, 0, false, false⟩), (25, .k 30 [(3, .p 21 0)] 17 0 .normal)]⟩
def lf7 : LF := ⟨5, 52, [(0, .yl 25), (1, .p 23 0), (2, .p 22 0), (3, .p 24 0), (9, .s 1 44)], [], (.exit 2), [(0, .yl 25), (2, .p 22 0)], some lh7⟩
noncomputable def tab4 : Tab := addLps (addLps (addLps ({ tabk with hyp := hy4 }) 30 fi30 [⟨7777777, 30, [], [3], .goto 7777777, [], none⟩]) 6 fi6 [lf6]) 124 fi124 [lf7]
theorem run4 : Go.AX.okB (call tab4 9000 6 [.sr 7] ⟨addR 7 [.r 2000000 5 1 true] (H0 ), 7 + List.length (α := Ent) [.r 2000000 5 1 true], 0, 0⟩) = true := by kernel_rfl
def nu4 (blk_l : Nat) (base_l : Nat) (es_l : Nat) (l : List Int) : List Value := [.int .i64 ((l.length : Int)),
  St' (jnT true [] l),
  St' ((lsI [] (jnT true [] l)).2),
  St' (trQ ((lsI [] (jnT true [] l)).2))]
def ro4 (blk_l : Nat) (base_l : Nat) (es_l : Nat) (l : List Int) : List Value := [rwI .u8 l,
  rwS ([] : List LB),
  rwI .u8 l]
theorem on4 (blk_l : Nat) (base_l : Nat) (es_l : Nat) (l : List Int) : ∀ j, (nuL (nu4 blk_l base_l es_l l) j).oneCell' = true := nuL_one (l := nu4 blk_l base_l es_l l) rfl
theorem path4 (blk_l : Nat) (base_l : Nat) (es_l : Nat) (l : List Int) (b0 : ∀ n, n ∈ l → 0 ≤ n ∧ n ≤ 255) (b1 : l.length ≤ 9223372036854775807) (h0 : ¬ (30 < (l.length : Int))) (h1 : (wtT l).length = 0) (w : World) (hl : laidE w) (w_l : InRow w 1 (l.map (Value.int .u8)) blk_l base_l l.length es_l) (g_l : (H0 ).get blk_l = none) : CwR 6 #[.slice (some ⟨blk_l, base_l, none⟩) l.length es_l] w (.bool true) := by
  have hjl := jnT_len l true []; simp only [List.length_nil, Nat.zero_add] at hjl
  have := wtT_len l
  have hjw := congrArg List.length (lsQ_jn l (by assumption))
  have hls := lsI_len (jnT true [] l) []; simp only [List.length_nil, Nat.zero_add] at hls
  have := lsq_len (jnT true [] l)
  have := trQ_len ((lsI [] (jnT true [] l)).2)
  have ho : ∀ k r, (k, r) ∈ hy4 → HOk (cx (nuX (nu4 blk_l base_l es_l l) (rX (ro4 blk_l base_l es_l l) (fun _ => .bool true))) (nuX_one (on4 blk_l base_l es_l l)) 0 laidE laidE_stab) k r := by
    unfold hy4
    exact hc (kRn (denX rfl)) <|
     hc (kRlI (isX rfl) (denX rfl) (by first | omega | (simp <;> omega))) <|
     hc (gtcF rfl (by omega)) <|
     hc (hokTrim (s := ((lsI [] (jnT true [] l)).2)) (isX rfl) (isSx (l := [u8 32, u8 9]) 2 2336 rfl) (denX (congrArg (fun l => St' l) (trSQ _).symm)) (by omega) (by omega)) <|
     hc (kNeS (isX rfl) (isSx (l := ([] : LB)) 0 0 rfl) (bnF (nilT (by omega)))) <|
     hnil
  exact runPR (tb := tab4) (AllOk.lp1 (AllOk.lp1 (AllOk.lp1 ((tabkOk (nuX (nu4 blk_l base_l es_l l) (rX (ro4 blk_l base_l es_l l) (fun _ => .bool true))) (nuX_one (on4 blk_l base_l es_l l))).hyps ho) (by omega) fi30_at fi30_body (lfCons (.inr ⟨mkA30, mkB30, _, Tryd.func30, mkC30⟩) lfNil)) (by omega) (get_lps2 (by omega) (by omega) fi6_at) fi6_body (lfCons (lpKnown rfl ⟨0, keyOl, lfOkOl_0 (l := lf6) (h := lh6) l (jnT true [] l) (wtT l) (by assumption) (0, (0 : Int), ([] : LB), ([] : List LB)) (mkIOl l (jnT true [] l) (wtT l) 0 (0 : Int) ([] : LB) ([] : List LB) ⟨by omega, by omega, by omega, by assumption, rfl, rfl, by simp, by simp, fun _ => rfl, fun h => by omega, by omega⟩) rfl (by kernel_rfl) (th0 := [(0, .s 0 0), (1, .i .i64 (.ofNat 0)), (2000000, .x 2000000)]) (sg0 := []) (fun X => thCons (show Is _ (.s 0 0) (St' ([] : LB)) from isTo (v := St' ([] : LB)) (isSx (l := ([] : LB)) 0 0 rfl) (by first | rfl | (simp; done))) (thCons (show Is _ (.i .i64 (.ofNat 0)) (.int .i64 ((0 : Int))) from isTo (v := .int .i64 0) (isI _ _) (by first | rfl | (congr 1; omega))) (thXv (v := rwI .u8 l) rfl rfl (thNil)))) (by kernel_rfl) (thx := [(1, .x 0), (2000002, .x 2000000)]) (thXv (v := St' (jnT true [] l)) rfl rfl (thXv (v := rwI .u8 l) rfl rfl (thNil))) (by kernel_rfl)⟩) lfNil)) (by omega) (get_lps2 (by omega) (by omega) (get_lps2 (by omega) (by omega) fi124_at)) fi124_body (lfCons (lpKnown rfl ⟨1, keySp21, lfOkSp21_0 (l := lf7) (h := lh7) ((lsI [] (jnT true [] l)).1) ((lsI [] (jnT true [] l)).2) (by first | assumption | omega) (0, (jnT true [] l), ([] : List LB)) (mkISp21 ((lsI [] (jnT true [] l)).1) ((lsI [] (jnT true [] l)).2) 0 (jnT true [] l) ([] : List LB) ⟨by simp, rfl, by omega, by simp only [List.length_nil]; omega, fun _ => rfl, fun h => by omega, by omega⟩) rfl (by kernel_rfl) (th0 := [(0, .x 1)]) (sg0 := []) (fun X => thXv (v := St' (jnT true [] l)) rfl rfl (thNil)) (by kernel_rfl) (thx := [(2, .x 0)]) (thXv (v := St' ((lsI [] (jnT true [] l)).2)) rfl rfl (thNil)) (by kernel_rfl)⟩) lfNil)) rfl (get_lps2 (by omega) (by omega) (get_lps (by omega))) fiB6 [.r 2000000 5 1 true] [⟨blk_l, base_l, l.length, es_l⟩] (run4 ) (args := [.slice (some ⟨blk_l, base_l, none⟩) l.length es_l]) ⟨_, _, rfl, relSr w_l.room, rfl⟩ w hl rfl (by decide) (args1 (w_l.arg (g_l ) rfl)) nodup1
def hy5 : LK := [(.rn, .x 2000001),
  (.rl (.x 2000000) 1, .x 0),
  (.bin .gtr (.x 0) (.i .i64 (.ofNat 30)), .b false),
  (.call 65 [.x 2, .s 2 2336], .x 3),
  (.bin .neq (.x 3) (.s 0 0), .b true),
  (.ra (.x 2000001) [.x 3], .x 2000004),
  (.rf (.x 2000004) 1 16, .b true),
  (.rl (.x 2000004) 1, .i .i64 (.ofNat 1)),
  (.rl (.x 2000003) 1, .x 4),
  (.bin .neq (.i .i64 (.ofNat 1)) (.x 4), .b false)]
def lh8 : LH := ⟨7, 8, 21, [(7, .r 2000000 5 1 true)], [(7, .r 2000002 5 1 true), (8, .r 2000003 9 1 false)]⟩
def lf8 : LF := ⟨8, 64, [(0, .sr 7), (3, .s 0 0), (5, .i .i64 (.ofNat 0)), (4, .nils)], [], (.exit 0), [(0, .sr 7), (3, .x 1), (4, .sr 8)], some lh8⟩
def lh9 : LH := ⟨7, 26, 38, [(21, .b ⟨35, .l [.nils], 0, 0, 0, false, false⟩), (22, .b ⟨9, .l [.x 1], 0, 0, 0, false, false⟩), (23, .b ⟨9, .l [.s 1 44], 0, 0, 0, false, false⟩), (24, .b ⟨3, .l [.i .i64 (.ofNat 0)], 0, 0, 0, false, false⟩), (25, .k 30 [(3, .p 21 0)] 17 0 .normal)], [(21, .b ⟨35, .l [.nils], 0, 0, 0, false, false⟩), (22, .b ⟨9, .l [.x 2], 0, 0, 0, false, false⟩), (23, .b ⟨9, .l [.s 1 44], 0, 0, 0, false, false⟩), (24, .b ⟨3, .l [.i .i64 (.ofNat 0)], 0, 0, 0, false, false⟩), (25, .k 30 [(3, .p 21 0)] 17 0 .normal)]⟩
def lf9 : LF := ⟨5, 52, [(0, .yl 25), (1, .p 23 0), (2, .p 22 0), (3, .p 24 0), (9, .s 1 44)], [], (.exit 2), [(0, .yl 25), (2, .p 22 0)], some lh9⟩
def lh10 : LH := ⟨7, 67, 69, [(39, .r 2000004 9 1 false), (8, .r 2000003 9 1 false)], []⟩
def lf10 : LF := ⟨4, 26, [(0, .sr 39), (1, .sr 8), (5, .i .i64 (.ofNat 0))], [], (.exit 0), [], some lh10⟩
noncomputable def tab5 : Tab := addLps (addLps (addLps (addLps ({ tabk with hyp := hy5 }) 30 fi30 [⟨7777777, 30, [], [3], .goto 7777777, [], none⟩]) 6 fi6 [lf8]) 124 fi124 [lf9]) 29 fi29 [lf10]
theorem run5 : Go.AX.okB (call tab5 9000 6 [.sr 7] ⟨addR 7 [.r 2000000 5 1 true] (H0 ), 7 + List.length (α := Ent) [.r 2000000 5 1 true], 0, 0⟩) = true := by kernel_rfl
def nu5 (blk_l : Nat) (base_l : Nat) (es_l : Nat) (l : List Int) : List Value := [.int .i64 ((l.length : Int)),
  St' (jnT true [] l),
  St' ((lsI [] (jnT true [] l)).2),
  St' (trQ ((lsI [] (jnT true [] l)).2)),
  .int .i64 (((wtT l).length : Int))]
def ro5 (blk_l : Nat) (base_l : Nat) (es_l : Nat) (l : List Int) : List Value := [rwI .u8 l,
  rwS ([] : List LB),
  rwI .u8 l,
  rwS (wtT l),
  rwS (([] : List LB) ++ [(trQ ((lsI [] (jnT true [] l)).2))])]
theorem on5 (blk_l : Nat) (base_l : Nat) (es_l : Nat) (l : List Int) : ∀ j, (nuL (nu5 blk_l base_l es_l l) j).oneCell' = true := nuL_one (l := nu5 blk_l base_l es_l l) rfl
theorem path5 (blk_l : Nat) (base_l : Nat) (es_l : Nat) (l : List Int) (b0 : ∀ n, n ∈ l → 0 ≤ n ∧ n ≤ 255) (b1 : l.length ≤ 9223372036854775807) (h0 : ¬ (30 < (l.length : Int))) (h1 : ¬ ((wtT l).length = 0)) (h2 : ((lsI [] (jnT true [] l)).1).length = 0) (w : World) (hl : laidE w) (w_l : InRow w 1 (l.map (Value.int .u8)) blk_l base_l l.length es_l) (g_l : (H0 ).get blk_l = none) : CwR 6 #[.slice (some ⟨blk_l, base_l, none⟩) l.length es_l] w (.bool true) := by
  have hjl := jnT_len l true []; simp only [List.length_nil, Nat.zero_add] at hjl
  have := wtT_len l
  have hjw := congrArg List.length (lsQ_jn l (by assumption))
  have hls := lsI_len (jnT true [] l) []; simp only [List.length_nil, Nat.zero_add] at hls
  have := lsq_len (jnT true [] l)
  have := trQ_len ((lsI [] (jnT true [] l)).2)
  have ho : ∀ k r, (k, r) ∈ hy5 → HOk (cx (nuX (nu5 blk_l base_l es_l l) (rX (ro5 blk_l base_l es_l l) (fun _ => .bool true))) (nuX_one (on5 blk_l base_l es_l l)) 0 laidE laidE_stab) k r := by
    unfold hy5
    exact hc (kRn (denX rfl)) <|
     hc (kRlI (isX rfl) (denX rfl) (by first | omega | (simp <;> omega))) <|
     hc (gtcF rfl (by omega)) <|
     hc (hokTrim (s := ((lsI [] (jnT true [] l)).2)) (isX rfl) (isSx (l := [u8 32, u8 9]) 2 2336 rfl) (denX (congrArg (fun l => St' l) (trSQ _).symm)) (by omega) (by omega)) <|
     hc (kNeS (isX rfl) (isSx (l := ([] : LB)) 0 0 rfl) (bnT (nilF (by omega)))) <|
     hc (kRa (isX rfl) (isX rfl) (denX rfl)) <|
     hc (kRf (isX rfl) (by first | omega | (simp <;> omega)) (by first | omega | (simp <;> omega))) <|
     hc (kRl (isX rfl) (denZ (m := 1) rfl) (by first | omega | (simp <;> omega))) <|
     hc (kRl (isX rfl) (denX rfl) (by first | omega | (simp <;> omega))) <|
     hc (kNeI (isZ (m := 1) rfl) (isX rfl) (neF (by omega))) <|
     hnil
  exact runPR (tb := tab5) (AllOk.lp1 (AllOk.lp1 (AllOk.lp1 (AllOk.lp1 ((tabkOk (nuX (nu5 blk_l base_l es_l l) (rX (ro5 blk_l base_l es_l l) (fun _ => .bool true))) (nuX_one (on5 blk_l base_l es_l l))).hyps ho) (by omega) fi30_at fi30_body (lfCons (.inr ⟨mkA30, mkB30, _, Tryd.func30, mkC30⟩) lfNil)) (by omega) (get_lps2 (by omega) (by omega) fi6_at) fi6_body (lfCons (lpKnown rfl ⟨0, keyOl, lfOkOl_1 (l := lf8) (h := lh8) l (jnT true [] l) (wtT l) (by assumption) (0, (0 : Int), ([] : LB), ([] : List LB)) (mkIOl l (jnT true [] l) (wtT l) 0 (0 : Int) ([] : LB) ([] : List LB) ⟨by omega, by omega, by omega, by assumption, rfl, rfl, by simp, by simp, fun _ => rfl, fun h => by omega, by omega⟩) rfl (by kernel_rfl) (th0 := [(0, .s 0 0), (1, .i .i64 (.ofNat 0)), (2000000, .x 2000000)]) (sg0 := []) (fun X => thCons (show Is _ (.s 0 0) (St' ([] : LB)) from isTo (v := St' ([] : LB)) (isSx (l := ([] : LB)) 0 0 rfl) (by first | rfl | (simp; done))) (thCons (show Is _ (.i .i64 (.ofNat 0)) (.int .i64 ((0 : Int))) from isTo (v := .int .i64 0) (isI _ _) (by first | rfl | (congr 1; omega))) (thXv (v := rwI .u8 l) rfl rfl (thNil)))) (by kernel_rfl) (thx := [(1, .x 0), (2000002, .x 2000000), (2000003, .x 2000001)]) (thXv (v := St' (jnT true [] l)) rfl rfl (thXv (v := rwI .u8 l) rfl rfl (thXv (v := rwS (wtT l)) rfl rfl (thNil)))) (by kernel_rfl)⟩) lfNil)) (by omega) (get_lps2 (by omega) (by omega) (get_lps2 (by omega) (by omega) fi124_at)) fi124_body (lfCons (lpKnown rfl ⟨1, keySp21, lfOkSp21_0 (l := lf9) (h := lh9) ((lsI [] (jnT true [] l)).1) ((lsI [] (jnT true [] l)).2) (by first | assumption | omega) (0, (jnT true [] l), ([] : List LB)) (mkISp21 ((lsI [] (jnT true [] l)).1) ((lsI [] (jnT true [] l)).2) 0 (jnT true [] l) ([] : List LB) ⟨by simp, rfl, by omega, by simp only [List.length_nil]; omega, fun _ => rfl, fun h => by omega, by omega⟩) rfl (by kernel_rfl) (th0 := [(0, .x 1)]) (sg0 := []) (fun X => thXv (v := St' (jnT true [] l)) rfl rfl (thNil)) (by kernel_rfl) (thx := [(2, .x 0)]) (thXv (v := St' ((lsI [] (jnT true [] l)).2)) rfl rfl (thNil)) (by kernel_rfl)⟩) lfNil)) (by omega) (get_lps2 (by omega) (by omega) (get_lps2 (by omega) (by omega) (get_lps2 (by omega) (by omega) fi29_at))) fi29_body (lfCons (lpKnown rfl ⟨0, keySm, lfOkSm_0 (l := lf10) (h := lh10) (wtT l) (0, (0 : Int)) (mkISm (wtT l) 0 (0 : Int) ⟨by omega, by omega, by omega, by omega⟩) rfl (by kernel_rfl) (th0 := [(0, .i .i64 (.ofNat 0)), (2000000, .x 2000004), (2000001, .x 2000003)]) (sg0 := [(67, 39), (68, 8)]) (fun X => thCons (show Is _ (.i .i64 (.ofNat 0)) (.int .i64 ((0 : Int))) from isTo (v := .int .i64 0) (isI _ _) (by first | rfl | (congr 1; omega))) (thXe (v := rwS (([] : List LB) ++ [(trQ ((lsI [] (jnT true [] l)).2))])) (u := rwS (wtT l)) rfl rfl (congrArg rwS (by rw [← lsQ_jn l (by assumption), lsI_Q]; first | (rw [keepQ_no (by omega)]; simp; done) | (rw [keepQ_yes (by omega)]; done) | (rw [keepQ_yes (by omega), List.eq_nil_of_length_eq_zero (by assumption : ((lsI [] (jnT true [] l)).1).length = 0)]; done) | (rw [keepQ_yes (by omega), List.eq_nil_of_length_eq_zero (by assumption : ((lsI [] (jnT true [] l)).1).length = 0)]; rfl))) (thXv (v := rwS (wtT l)) rfl rfl (thNil)))) (by kernel_rfl) (thx := []) (thNil) (by kernel_rfl)⟩) lfNil)) rfl (get_lps2 (by omega) (by omega) (get_lps2 (by omega) (by omega) (get_lps (by omega)))) fiB6 [.r 2000000 5 1 true] [⟨blk_l, base_l, l.length, es_l⟩] (run5 ) (args := [.slice (some ⟨blk_l, base_l, none⟩) l.length es_l]) ⟨_, _, rfl, relSr w_l.room, rfl⟩ w hl rfl (by decide) (args1 (w_l.arg (g_l ) rfl)) nodup1
end Go.Proofs.YtacflaaahanhgaaDoor.octetLists
