/- A part of the proof: an interpreter of the model's own code on partly known states, and that what it answers is what the program answers. No condition of its own. -/
import Derived.Test.YtacflaaahanhgaaDoorC2OctetTellsO9
set_option maxRecDepth 100000
set_option linter.unusedVariables false
set_option linter.unusedSimpArgs false
set_option maxHeartbeats 4000000
namespace Go.Proofs.YtacflaaahanhgaaDoor.octetTells
open Go Go.AX Go.Proofs Go.Proofs.YtacflaaahanhgaaDoor
def hy2 : LK := [(.rn, .x 2000000),
  (.len (.x 0), .x 1),
  (.bin .gtr (.x 1) (.i .i64 (.ofNat 400)), .b false),
  (.call 55 [.x 0, .i .i64 (.ofNat 10), .i .i64 (.ofNat 9)], .tu [.x 2, .x 3]),
  (.call 15 [.x 0], .tu [.x 4, .x 5]),
  (.call 55 [.x 0, .i .i64 (.ofNat 16), .i .i64 (.ofNat 7)], .tu [.x 6, .x 7]),
  (.call 17 [.x 0], .tu [.x 8, .x 9]),
  (.call 18 [.x 0], .tu [.x 10, .x 11]),
  (.call 19 [.x 0], .tu [.x 12, .x 13]),
  (.call 20 [.x 0], .x 14),
  (.call 21 [.x 0], .x 15),
  (.eqb (.x 14) (.x 15), .b true),
  (.call 22 [.x 0], .x 16),
  (.call 23 [.x 0], .x 17),
  (.bin .eql (.x 16) (.x 17), .b true),
  (.call 65 [.x 0, .s 2 2336], .x 18),
  (.call 25 [.x 0], .x 19),
  (.bin .eql (.x 18) (.x 19), .b true),
  (.bin .eql (.x 2) (.x 4), .b true),
  (.eqb (.x 3) (.x 5), .b true),
  (.bin .eql (.x 6) (.x 8), .b true),
  (.eqb (.x 7) (.x 9), .b true),
  (.bin .eql (.x 10) (.x 12), .b true),
  (.call 26 [.x 11], .x 20),
  (.bin .eql (.x 20) (.x 13), .b true),
  (.call 27 [.x 0], .x 21),
  (.call 28 [.x 0], .x 22),
  (.bin .eql (.x 21) (.x 22), .b true),
  (.call 65 [.x 23, .s 2 2336], .x 24),
  (.bin .neq (.x 24) (.s 0 0), .b false),
  (.rl (.x 2000001) 1, .x 25),
  (.rl (.x 2000002) 1, .x 26),
  (.bin .neq (.x 25) (.x 26), .b false)]
def lh33 : LH := ⟨7, 12, 24, [(7, .b ⟨35, .l [.nils], 0, 0, 0, false, false⟩), (8, .b ⟨9, .l [.x 0], 0, 0, 0, false, false⟩), (9, .b ⟨9, .l [.s 1 44], 0, 0, 0, false, false⟩), (10, .b ⟨3, .l [.i .i64 (.ofNat 0)], 0, 0, 0, false, false⟩), (11, .k 30 [(3, .p 7 0)] 17 0 .normal)], [(7, .b ⟨35, .l [.sr 12], 0, 0, 0, false, false⟩), (8, .b ⟨9, .l [.x 23], 0, 0, 0, false, false⟩), (9, .b ⟨9, .l [.s 1 44], 0, 0, 0, false, false⟩), (10, .b ⟨3, .l [.i .i64 (.ofNat 0)], 0, 0, 0, false, false⟩), (11, .k 30 [(3, .p 7 0)] 17 0 .normal), (12, .r 2000001 9 1 false)]⟩
def lf33 : LF := ⟨5, 52, [(0, .yl 11), (1, .p 9 0), (2, .p 8 0), (3, .p 10 0), (9, .s 1 44)], [], (.exit 2), [(0, .yl 11), (2, .p 8 0)], some lh33⟩
def lh34 : LH := ⟨7, 47, 51, [], [(47, .r 2000002 9 1 false)]⟩
def lf34 : LF := ⟨4, 37, [(0, .x 0), (3, .nils), (4, .i .i64 (.ofNat 0)), (5, .i .i64 (.ofNat 0))], [], (.exit 0), [(3, .sr 47)], some lh34⟩
def lh35 : LH := ⟨7, 67, 69, [(12, .r 2000001 9 1 false), (47, .r 2000002 9 1 false)], []⟩
def lf35 : LF := ⟨4, 26, [(0, .sr 12), (1, .sr 47), (5, .i .i64 (.ofNat 0))], [], (.exit 0), [], some lh35⟩
noncomputable def tab2 : Tab := addLps (addLps (addLps (addLps ({ tabk with hyp := hy2 }) 30 fi30 [⟨7777777, 30, [], [3], .goto 7777777, [], none⟩]) 124 fi124 [lf33]) 31 fi31 [lf34]) 29 fi29 [lf35]
theorem run2 (e : Nat) : Go.AX.okB (call tab2 9000 3 [.x 0] ⟨H0 e , 7, 0, 0⟩) = true := by kernel_rfl
noncomputable def nu2 (s : LB) : List Value := [St' s,
  .int .i64 ((s.length : Int)),
  .int .i64 ((numV 10 9 s)),
  .bool (numB 10 9 s),
  .int .i64 ((numV 10 9 s)),
  .bool (numB 10 9 s),
  .int .i64 ((numV 16 7 s)),
  .bool (numB 16 7 s),
  .int .i64 ((numV 16 7 s)),
  .bool (numB 16 7 s),
  St' ((unS s).getD []),
  unE s,
  St' ((unS s).getD []),
  .int .i64 ((unC s)),
  .bool (tokS s),
  .bool (tokS s),
  St' (lowS s),
  St' (lowS s),
  St' (trQ s),
  St' (trQ s),
  .int .i64 ((unC s)),
  St' (escS s),
  St' (escS s),
  St' ((lsI [] s).2),
  St' (trQ ((lsI [] s).2)),
  .int .i64 ((((lsI [] s).1).length : Int)),
  .int .i64 (((lsQ [] s).length : Int))]
def ro2 (s : LB) : List Value := [rwS ([] : List LB),
  rwS ((lsI [] s).1),
  rwS (lsQ [] s)]
theorem on2 (s : LB) : ∀ j, (nuL (nu2 s) j).oneCell' = true := nuL_one (l := nu2 s) (by unfold nu2; simp only [List.all_cons, List.all_nil, Bool.and_true, Bool.true_and, unE_one]; rfl)
theorem path2 (s : LB) (b0 : s.length ≤ 9223372036854775807) (h0 : ¬ (400 < (s.length : Int))) (h4 : ¬ (((lsI [] s).1).length = 0)) (h5 : ((trQ ((lsI [] s).2)).length : Int) = 0) (w : World) (hl : laidE w) : CwR 3 #[St' s] w (.bool true) := by
  have : (lowS s).length = s.length := List.length_map ..
  have := trQ_len s
  have := escS_len s
  have hls := lsI_len s []; simp only [List.length_nil, Nat.zero_add] at hls
  have := lsq_len s
  have := trQ_len ((lsI [] s).2)
  have ho : ∀ k r, (k, r) ∈ hy2 → HOk (cx (nuX (nu2 s) (rX (ro2 s) (fun _ => .bool true))) (nuX_one (on2 s)) 1 laidE laidE_stab) k r := by
    unfold hy2
    exact hc (kRn (denX rfl)) <|
     hc (lnV rfl rfl (by omega)) <|
     hc (gtcF rfl (by omega)) <|
     hc (hokNmO10 (s := s) (isX rfl) (isZ (m := 10) rfl) (isZ (m := 9) rfl) (denT2 (denX rfl) (denX rfl)) (by omega)) <|
     hc (hokNmR10 (s := s) (isX rfl) (denT2 (denX rfl) (denX rfl)) (by omega)) <|
     hc (hokNmO16 (s := s) (isX rfl) (isZ (m := 16) rfl) (isZ (m := 7) rfl) (denT2 (denX rfl) (denX rfl)) (by omega)) <|
     hc (hokNmR16 (s := s) (isX rfl) (denT2 (denX rfl) (denX rfl)) (by omega)) <|
     hc (hokUnesc (s := s) (isX rfl) (unDen rfl rfl) (by omega) (by omega)) <|
     hc (hokUnR (s := s) (isX rfl) (unDenR rfl rfl) (by omega) (by omega)) <|
     hc (hokTokA (s := s) (isX rfl) (denX rfl) (by omega) (by omega)) <|
     hc (hokTokR (s := s) (isX rfl) (denX rfl) (by omega) (by omega)) <|
     hc (kEqB (isX rfl) (isX rfl)) <|
     hc (hokLower (s := s) (isX rfl) (denX rfl) (by omega) (by omega)) <|
     hc (hokLowerR (s := s) (isX rfl) (denX rfl) (by omega) (by omega)) <|
     hc (kEqS (isX rfl) (isX rfl) (decide_eq_true rfl)) <|
     hc (hokTrim (s := s) (isX rfl) (isSx (l := [u8 32, u8 9]) 2 2336 rfl) (denX (congrArg (fun l => St' l) (trSQ _).symm)) (by omega) (by omega)) <|
     hc (hokQTrim (s := s) (isX rfl) (denX rfl) (by omega) (by omega)) <|
     hc (kEqS (isX rfl) (isX rfl) (decide_eq_true rfl)) <|
     hc (eqXT rfl rfl (by omega)) <|
     hc (kEqB (isX rfl) (isX rfl)) <|
     hc (eqXT rfl rfl (by omega)) <|
     hc (kEqB (isX rfl) (isX rfl)) <|
     hc (kEqS (isX rfl) (isX rfl) (decide_eq_true rfl)) <|
     hc (hokCodeE rfl (denX rfl)) <|
     hc (eqXT rfl rfl (by omega)) <|
     hc (hokEscape (s := s) (isX rfl) (denX rfl) (by omega) (by omega)) <|
     hc (hokEscR (s := s) (isX rfl) (denX rfl) (by omega) (by omega)) <|
     hc (kEqS (isX rfl) (isX rfl) (decide_eq_true rfl)) <|
     hc (hokTrim (s := ((lsI [] s).2)) (isX rfl) (isSx (l := [u8 32, u8 9]) 2 2336 rfl) (denX (congrArg (fun l => St' l) (trSQ _).symm)) (by omega) (by omega)) <|
     hc (kNeS (isX rfl) (isSx (l := ([] : LB)) 0 0 rfl) (bnF (nilT (by omega)))) <|
     hc (kRl (isX rfl) (denX rfl) (by first | omega | (simp <;> omega))) <|
     hc (kRl (isX rfl) (denX rfl) (by first | omega | (simp <;> omega))) <|
     hc (kNeI (isX rfl) (isX rfl) (neF (by omega))) <|
     hnil
  exact runP (tb := tab2) (AllOk.lp1 (AllOk.lp1 (AllOk.lp1 (AllOk.lp1 ((tabkOk (nuX (nu2 s) (rX (ro2 s) (fun _ => .bool true))) (nuX_one (on2 s))).hyps ho) (by omega) fi30_at fi30_body (lfCons (.inr ⟨mkA30, mkB30, _, Tryd.func30, mkC30⟩) lfNil)) (by omega) (get_lps2 (by omega) (by omega) fi124_at) fi124_body (lfCons (lpKnown rfl ⟨1, keySp7, lfOkSp7_1 (l := lf33) (h := lh33) ((lsI [] s).1) ((lsI [] s).2) (by assumption) (0, s, ([] : List LB)) (mkISp7 ((lsI [] s).1) ((lsI [] s).2) 0 s ([] : List LB) ⟨by simp, rfl, by omega, by simp only [List.length_nil]; omega, fun _ => rfl, fun h => by omega, by omega⟩) rfl (by kernel_rfl) (th0 := [(0, .x 0)]) (sg0 := []) (fun X => thXv (v := St' s) rfl rfl (thNil)) (by kernel_rfl) (thx := [(23, .x 0), (2000001, .x 2000000)]) (thXv (v := St' ((lsI [] s).2)) rfl rfl (thXv (v := rwS ((lsI [] s).1)) rfl rfl (thNil))) (by kernel_rfl)⟩) lfNil)) (by omega) (get_lps2 (by omega) (by omega) (get_lps2 (by omega) (by omega) fi31_at)) fi31_body (lfCons (lpKnown rfl ⟨0, keyLs, lfOkLs_1 (l := lf34) (h := lh34) s (lsQ [] s) (by omega) (by omega) (0, (0 : Int), (0 : Int), ([] : List LB)) (mkILs s (lsQ [] s) 0 (0 : Int) (0 : Int) ([] : List LB) ⟨by omega, by omega, by omega, fun _ => by rw [md_nil]; rfl, fun h => by omega, by simp, fun _ => rfl, fun h => by omega, by omega⟩) rfl (by kernel_rfl) (th0 := [(0, .x 0), (1, .i .i64 (.ofNat 0)), (2, .i .i64 (.ofNat 0))]) (sg0 := []) (fun X => thXv (v := St' s) rfl rfl (thCons (show Is _ (.i .i64 (.ofNat 0)) (.int .i64 ((0 : Int))) from isTo (v := .int .i64 0) (isI _ _) (by first | rfl | (congr 1; omega))) (thCons (show Is _ (.i .i64 (.ofNat 0)) (.int .i64 ((0 : Int))) from isTo (v := .int .i64 0) (isI _ _) (by first | rfl | (congr 1; omega))) (thNil)))) (by kernel_rfl) (thx := [(2000002, .x 2000000)]) (thXv (v := rwS (lsQ [] s)) rfl rfl (thNil)) (by kernel_rfl)⟩) lfNil)) (by omega) (get_lps2 (by omega) (by omega) (get_lps2 (by omega) (by omega) (get_lps2 (by omega) (by omega) fi29_at))) fi29_body (lfCons (lpKnown rfl ⟨0, keySm, lfOkSm_0 (l := lf35) (h := lh35) (lsQ [] s) (0, (0 : Int)) (mkISm (lsQ [] s) 0 (0 : Int) ⟨by omega, by omega, by omega, by omega⟩) rfl (by kernel_rfl) (th0 := [(0, .i .i64 (.ofNat 0)), (2000000, .x 2000001), (2000001, .x 2000002)]) (sg0 := [(67, 12), (68, 47)]) (fun X => thCons (show Is _ (.i .i64 (.ofNat 0)) (.int .i64 ((0 : Int))) from isTo (v := .int .i64 0) (isI _ _) (by first | rfl | (congr 1; omega))) (thXe (v := rwS ((lsI [] s).1)) (u := rwS (lsQ [] s)) rfl rfl (congrArg rwS (by rw [lsI_Q]; first | (rw [keepQ_no (by omega)]; simp; done) | (rw [keepQ_yes (by omega)]; done) | (rw [keepQ_yes (by omega), List.eq_nil_of_length_eq_zero (by assumption : ((lsI [] s).1).length = 0)]; done) | (rw [keepQ_yes (by omega), List.eq_nil_of_length_eq_zero (by assumption : ((lsI [] s).1).length = 0)]; rfl))) (thXv (v := rwS (lsQ [] s)) rfl rfl (thNil)))) (by kernel_rfl) (thx := []) (thNil) (by kernel_rfl)⟩) lfNil)) rfl (get_lps2 (by omega) (by omega) (get_lps2 (by omega) (by omega) (get_lps2 (by omega) (by omega) (get_lps2 (by omega) (by omega) fi3_at)))) fiB3 (fun e => run2 e ) (args := [St' s]) (by simp only [RelL, Rel]; exact ⟨_, _, rfl, rfl, rfl⟩) w hl
def hy3 : LK := [(.rn, .x 2000000),
  (.len (.x 0), .x 1),
  (.bin .gtr (.x 1) (.i .i64 (.ofNat 400)), .b false),
  (.call 55 [.x 0, .i .i64 (.ofNat 10), .i .i64 (.ofNat 9)], .tu [.x 2, .x 3]),
  (.call 15 [.x 0], .tu [.x 4, .x 5]),
  (.call 55 [.x 0, .i .i64 (.ofNat 16), .i .i64 (.ofNat 7)], .tu [.x 6, .x 7]),
  (.call 17 [.x 0], .tu [.x 8, .x 9]),
  (.call 18 [.x 0], .tu [.x 10, .x 11]),
  (.call 19 [.x 0], .tu [.x 12, .x 13]),
  (.call 20 [.x 0], .x 14),
  (.call 21 [.x 0], .x 15),
  (.eqb (.x 14) (.x 15), .b true),
  (.call 22 [.x 0], .x 16),
  (.call 23 [.x 0], .x 17),
  (.bin .eql (.x 16) (.x 17), .b true),
  (.call 65 [.x 0, .s 2 2336], .x 18),
  (.call 25 [.x 0], .x 19),
  (.bin .eql (.x 18) (.x 19), .b true),
  (.bin .eql (.x 2) (.x 4), .b true),
  (.eqb (.x 3) (.x 5), .b true),
  (.bin .eql (.x 6) (.x 8), .b true),
  (.eqb (.x 7) (.x 9), .b true),
  (.bin .eql (.x 10) (.x 12), .b true),
  (.call 26 [.x 11], .x 20),
  (.bin .eql (.x 20) (.x 13), .b true),
  (.call 27 [.x 0], .x 21),
  (.call 28 [.x 0], .x 22),
  (.bin .eql (.x 21) (.x 22), .b true),
  (.call 65 [.x 23, .s 2 2336], .x 24),
  (.bin .neq (.x 24) (.s 0 0), .b true),
  (.ra (.x 2000000) [.x 24], .x 2000001),
  (.rf (.x 2000001) 1 16, .b true),
  (.rl (.x 2000001) 1, .i .i64 (.ofNat 1)),
  (.rl (.x 2000002) 1, .x 25),
  (.bin .neq (.i .i64 (.ofNat 1)) (.x 25), .b false)]
def lh36 : LH := ⟨7, 12, 24, [(7, .b ⟨35, .l [.nils], 0, 0, 0, false, false⟩), (8, .b ⟨9, .l [.x 0], 0, 0, 0, false, false⟩), (9, .b ⟨9, .l [.s 1 44], 0, 0, 0, false, false⟩), (10, .b ⟨3, .l [.i .i64 (.ofNat 0)], 0, 0, 0, false, false⟩), (11, .k 30 [(3, .p 7 0)] 17 0 .normal)], [(7, .b ⟨35, .l [.nils], 0, 0, 0, false, false⟩), (8, .b ⟨9, .l [.x 23], 0, 0, 0, false, false⟩), (9, .b ⟨9, .l [.s 1 44], 0, 0, 0, false, false⟩), (10, .b ⟨3, .l [.i .i64 (.ofNat 0)], 0, 0, 0, false, false⟩), (11, .k 30 [(3, .p 7 0)] 17 0 .normal)]⟩
def lf36 : LF := ⟨5, 52, [(0, .yl 11), (1, .p 9 0), (2, .p 8 0), (3, .p 10 0), (9, .s 1 44)], [], (.exit 2), [(0, .yl 11), (2, .p 8 0)], some lh36⟩
def lh37 : LH := ⟨7, 47, 51, [], [(47, .r 2000002 9 1 false)]⟩
def lf37 : LF := ⟨4, 37, [(0, .x 0), (3, .nils), (4, .i .i64 (.ofNat 0)), (5, .i .i64 (.ofNat 0))], [], (.exit 0), [(3, .sr 47)], some lh37⟩
def lh38 : LH := ⟨7, 67, 69, [(25, .r 2000001 9 1 false), (47, .r 2000002 9 1 false)], []⟩
def lf38 : LF := ⟨4, 26, [(0, .sr 25), (1, .sr 47), (5, .i .i64 (.ofNat 0))], [], (.exit 0), [], some lh38⟩
noncomputable def tab3 : Tab := addLps (addLps (addLps (addLps ({ tabk with hyp := hy3 }) 30 fi30 [⟨7777777, 30, [], [3], .goto 7777777, [], none⟩]) 124 fi124 [lf36]) 31 fi31 [lf37]) 29 fi29 [lf38]
theorem run3 (e : Nat) : Go.AX.okB (call tab3 9000 3 [.x 0] ⟨H0 e , 7, 0, 0⟩) = true := by kernel_rfl
noncomputable def nu3 (s : LB) : List Value := [St' s,
  .int .i64 ((s.length : Int)),
  .int .i64 ((numV 10 9 s)),
  .bool (numB 10 9 s),
  .int .i64 ((numV 10 9 s)),
  .bool (numB 10 9 s),
  .int .i64 ((numV 16 7 s)),
  .bool (numB 16 7 s),
  .int .i64 ((numV 16 7 s)),
  .bool (numB 16 7 s),
  St' ((unS s).getD []),
  unE s,
  St' ((unS s).getD []),
  .int .i64 ((unC s)),
  .bool (tokS s),
  .bool (tokS s),
  St' (lowS s),
  St' (lowS s),
  St' (trQ s),
  St' (trQ s),
  .int .i64 ((unC s)),
  St' (escS s),
  St' (escS s),
  St' ((lsI [] s).2),
  St' (trQ ((lsI [] s).2)),
  .int .i64 (((lsQ [] s).length : Int))]
def ro3 (s : LB) : List Value := [rwS ([] : List LB),
  rwS (([] : List LB) ++ [(trQ ((lsI [] s).2))]),
  rwS (lsQ [] s)]
theorem on3 (s : LB) : ∀ j, (nuL (nu3 s) j).oneCell' = true := nuL_one (l := nu3 s) (by unfold nu3; simp only [List.all_cons, List.all_nil, Bool.and_true, Bool.true_and, unE_one]; rfl)
theorem path3 (s : LB) (b0 : s.length ≤ 9223372036854775807) (h0 : ¬ (400 < (s.length : Int))) (h4 : ((lsI [] s).1).length = 0) (h5 : ¬ (((trQ ((lsI [] s).2)).length : Int) = 0)) (w : World) (hl : laidE w) : CwR 3 #[St' s] w (.bool true) := by
  have : (lowS s).length = s.length := List.length_map ..
  have := trQ_len s
  have := escS_len s
  have hls := lsI_len s []; simp only [List.length_nil, Nat.zero_add] at hls
  have := lsq_len s
  have := trQ_len ((lsI [] s).2)
  have ho : ∀ k r, (k, r) ∈ hy3 → HOk (cx (nuX (nu3 s) (rX (ro3 s) (fun _ => .bool true))) (nuX_one (on3 s)) 1 laidE laidE_stab) k r := by
    unfold hy3
    exact hc (kRn (denX rfl)) <|
     hc (lnV rfl rfl (by omega)) <|
     hc (gtcF rfl (by omega)) <|
     hc (hokNmO10 (s := s) (isX rfl) (isZ (m := 10) rfl) (isZ (m := 9) rfl) (denT2 (denX rfl) (denX rfl)) (by omega)) <|
     hc (hokNmR10 (s := s) (isX rfl) (denT2 (denX rfl) (denX rfl)) (by omega)) <|
     hc (hokNmO16 (s := s) (isX rfl) (isZ (m := 16) rfl) (isZ (m := 7) rfl) (denT2 (denX rfl) (denX rfl)) (by omega)) <|
     hc (hokNmR16 (s := s) (isX rfl) (denT2 (denX rfl) (denX rfl)) (by omega)) <|
     hc (hokUnesc (s := s) (isX rfl) (unDen rfl rfl) (by omega) (by omega)) <|
     hc (hokUnR (s := s) (isX rfl) (unDenR rfl rfl) (by omega) (by omega)) <|
     hc (hokTokA (s := s) (isX rfl) (denX rfl) (by omega) (by omega)) <|
     hc (hokTokR (s := s) (isX rfl) (denX rfl) (by omega) (by omega)) <|
     hc (kEqB (isX rfl) (isX rfl)) <|
     hc (hokLower (s := s) (isX rfl) (denX rfl) (by omega) (by omega)) <|
     hc (hokLowerR (s := s) (isX rfl) (denX rfl) (by omega) (by omega)) <|
     hc (kEqS (isX rfl) (isX rfl) (decide_eq_true rfl)) <|
     hc (hokTrim (s := s) (isX rfl) (isSx (l := [u8 32, u8 9]) 2 2336 rfl) (denX (congrArg (fun l => St' l) (trSQ _).symm)) (by omega) (by omega)) <|
     hc (hokQTrim (s := s) (isX rfl) (denX rfl) (by omega) (by omega)) <|
     hc (kEqS (isX rfl) (isX rfl) (decide_eq_true rfl)) <|
     hc (eqXT rfl rfl (by omega)) <|
     hc (kEqB (isX rfl) (isX rfl)) <|
     hc (eqXT rfl rfl (by omega)) <|
     hc (kEqB (isX rfl) (isX rfl)) <|
     hc (kEqS (isX rfl) (isX rfl) (decide_eq_true rfl)) <|
     hc (hokCodeE rfl (denX rfl)) <|
     hc (eqXT rfl rfl (by omega)) <|
     hc (hokEscape (s := s) (isX rfl) (denX rfl) (by omega) (by omega)) <|
     hc (hokEscR (s := s) (isX rfl) (denX rfl) (by omega) (by omega)) <|
     hc (kEqS (isX rfl) (isX rfl) (decide_eq_true rfl)) <|
     hc (hokTrim (s := ((lsI [] s).2)) (isX rfl) (isSx (l := [u8 32, u8 9]) 2 2336 rfl) (denX (congrArg (fun l => St' l) (trSQ _).symm)) (by omega) (by omega)) <|
     hc (kNeS (isX rfl) (isSx (l := ([] : LB)) 0 0 rfl) (bnT (nilF (by omega)))) <|
     hc (kRa (isX rfl) (isX rfl) (denX rfl)) <|
     hc (kRf (isX rfl) (by first | omega | (simp <;> omega)) (by first | omega | (simp <;> omega))) <|
     hc (kRl (isX rfl) (denZ (m := 1) rfl) (by first | omega | (simp <;> omega))) <|
     hc (kRl (isX rfl) (denX rfl) (by first | omega | (simp <;> omega))) <|
     hc (kNeI (isZ (m := 1) rfl) (isX rfl) (neF (by omega))) <|
     hnil
  exact runP (tb := tab3) (AllOk.lp1 (AllOk.lp1 (AllOk.lp1 (AllOk.lp1 ((tabkOk (nuX (nu3 s) (rX (ro3 s) (fun _ => .bool true))) (nuX_one (on3 s))).hyps ho) (by omega) fi30_at fi30_body (lfCons (.inr ⟨mkA30, mkB30, _, Tryd.func30, mkC30⟩) lfNil)) (by omega) (get_lps2 (by omega) (by omega) fi124_at) fi124_body (lfCons (lpKnown rfl ⟨1, keySp7, lfOkSp7_0 (l := lf36) (h := lh36) ((lsI [] s).1) ((lsI [] s).2) (by assumption) (0, s, ([] : List LB)) (mkISp7 ((lsI [] s).1) ((lsI [] s).2) 0 s ([] : List LB) ⟨by simp, rfl, by omega, by simp only [List.length_nil]; omega, fun _ => rfl, fun h => by omega, by omega⟩) rfl (by kernel_rfl) (th0 := [(0, .x 0)]) (sg0 := []) (fun X => thXv (v := St' s) rfl rfl (thNil)) (by kernel_rfl) (thx := [(23, .x 0)]) (thXv (v := St' ((lsI [] s).2)) rfl rfl (thNil)) (by kernel_rfl)⟩) lfNil)) (by omega) (get_lps2 (by omega) (by omega) (get_lps2 (by omega) (by omega) fi31_at)) fi31_body (lfCons (lpKnown rfl ⟨0, keyLs, lfOkLs_1 (l := lf37) (h := lh37) s (lsQ [] s) (by omega) (by omega) (0, (0 : Int), (0 : Int), ([] : List LB)) (mkILs s (lsQ [] s) 0 (0 : Int) (0 : Int) ([] : List LB) ⟨by omega, by omega, by omega, fun _ => by rw [md_nil]; rfl, fun h => by omega, by simp, fun _ => rfl, fun h => by omega, by omega⟩) rfl (by kernel_rfl) (th0 := [(0, .x 0), (1, .i .i64 (.ofNat 0)), (2, .i .i64 (.ofNat 0))]) (sg0 := []) (fun X => thXv (v := St' s) rfl rfl (thCons (show Is _ (.i .i64 (.ofNat 0)) (.int .i64 ((0 : Int))) from isTo (v := .int .i64 0) (isI _ _) (by first | rfl | (congr 1; omega))) (thCons (show Is _ (.i .i64 (.ofNat 0)) (.int .i64 ((0 : Int))) from isTo (v := .int .i64 0) (isI _ _) (by first | rfl | (congr 1; omega))) (thNil)))) (by kernel_rfl) (thx := [(2000002, .x 2000000)]) (thXv (v := rwS (lsQ [] s)) rfl rfl (thNil)) (by kernel_rfl)⟩) lfNil)) (by omega) (get_lps2 (by omega) (by omega) (get_lps2 (by omega) (by omega) (get_lps2 (by omega) (by omega) fi29_at))) fi29_body (lfCons (lpKnown rfl ⟨0, keySm, lfOkSm_0 (l := lf38) (h := lh38) (lsQ [] s) (0, (0 : Int)) (mkISm (lsQ [] s) 0 (0 : Int) ⟨by omega, by omega, by omega, by omega⟩) rfl (by kernel_rfl) (th0 := [(0, .i .i64 (.ofNat 0)), (2000000, .x 2000001), (2000001, .x 2000002)]) (sg0 := [(67, 25), (68, 47)]) (fun X => thCons (show Is _ (.i .i64 (.ofNat 0)) (.int .i64 ((0 : Int))) from isTo (v := .int .i64 0) (isI _ _) (by first | rfl | (congr 1; omega))) (thXe (v := rwS (([] : List LB) ++ [(trQ ((lsI [] s).2))])) (u := rwS (lsQ [] s)) rfl rfl (congrArg rwS (by rw [lsI_Q]; first | (rw [keepQ_no (by omega)]; simp; done) | (rw [keepQ_yes (by omega)]; done) | (rw [keepQ_yes (by omega), List.eq_nil_of_length_eq_zero (by assumption : ((lsI [] s).1).length = 0)]; done) | (rw [keepQ_yes (by omega), List.eq_nil_of_length_eq_zero (by assumption : ((lsI [] s).1).length = 0)]; rfl))) (thXv (v := rwS (lsQ [] s)) rfl rfl (thNil)))) (by kernel_rfl) (thx := []) (thNil) (by kernel_rfl)⟩) lfNil)) rfl (get_lps2 (by omega) (by omega) (get_lps2 (by omega) (by omega) (get_lps2 (by omega) (by omega) (get_lps2 (by omega) (by omega) fi3_at)))) fiB3 (fun e => run3 e ) (args := [St' s]) (by simp only [RelL, Rel]; exact ⟨_, _, rfl, rfl, rfl⟩) w hl
end Go.Proofs.YtacflaaahanhgaaDoor.octetTells
