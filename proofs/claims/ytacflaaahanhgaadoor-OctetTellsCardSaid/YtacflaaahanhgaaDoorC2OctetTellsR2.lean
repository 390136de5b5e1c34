/- A part of the proof: an interpreter of the model's own code on partly known states, and that what it answers is what the program answers. No condition of its own. -/
import Derived.Test.YtacflaaahanhgaaDoorC2OctetTellsO9
set_option maxRecDepth 100000
set_option linter.unusedVariables false
set_option linter.unusedSimpArgs false
set_option maxHeartbeats 4000000
namespace Go.Proofs.YtacflaaahanhgaaDoor.octetTells
open Go Go.AX Go.Proofs Go.Proofs.YtacflaaahanhgaaDoor
def hy4 : LK := [(.rn, .x 2000000),
  (.len (.x 0), .x 1),
  (.bin .gtr (.x 1) (.i .i64 (.ofNat 400)), .b false),
  (.call 55 [.x 0, .i .i64 (.ofNat 10), .i .i64 (.ofNat 9)], .tu [.x 2, .x 3]),
  (.call 15 [.x 0], .tu [.x 4, .x 5]),
  (.call 55 [.x 0, .i .i64 (.ofNat 16), .i .i64 (.ofNat 7)], .tu [.x 6, .x 7]),
  (.call 17 [.x 0], .tu [.x 8, .x 9]),
  (.call 18 [.x 0], .tu [.x 10, .x 11]),
  (.call 19 [.x 0], .tu [.x 12, .x 13]),
  (.call 20 [.x 0], .x 14),
  (.call 21 [.x 0], .x 15),
  (.eqb (.x 14) (.x 15), .b true),
  (.call 22 [.x 0], .x 16),
  (.call 23 [.x 0], .x 17),
  (.bin .eql (.x 16) (.x 17), .b true),
  (.call 65 [.x 0, .s 2 2336], .x 18),
  (.call 25 [.x 0], .x 19),
  (.bin .eql (.x 18) (.x 19), .b true),
  (.bin .eql (.x 2) (.x 4), .b true),
  (.eqb (.x 3) (.x 5), .b true),
  (.bin .eql (.x 6) (.x 8), .b true),
  (.eqb (.x 7) (.x 9), .b true),
  (.bin .eql (.x 10) (.x 12), .b true),
  (.call 26 [.x 11], .x 20),
  (.bin .eql (.x 20) (.x 13), .b true),
  (.call 27 [.x 0], .x 21),
  (.call 28 [.x 0], .x 22),
  (.bin .eql (.x 21) (.x 22), .b true),
  (.call 65 [.x 23, .s 2 2336], .x 24),
  (.bin .neq (.x 24) (.s 0 0), .b false)]
def lh39 : LH := ⟨7, 12, 24, [(7, .b ⟨35, .l [.nils], 0, 0, 0, false, false⟩), (8, .b ⟨9, .l [.x 0], 0, 0, 0, false, false⟩), (9, .b ⟨9, .l [.s 1 44], 0, 0, 0, false, false⟩), (10, .b ⟨3, .l [.i .i64 (.ofNat 0)], 0, 0, 0, false, false⟩), (11, .k 30 [(3, .p 7 0)] 17 0 .normal)], [(7, .b ⟨35, .l [.nils], 0, 0, 0, false, false⟩), (8, .b ⟨9, .l [.x 23], 0, 0, 0, false, false⟩), (9, .b ⟨9, .l [.s 1 44], 0, 0, 0, false, false⟩), (10, .b ⟨3, .l [.i .i64 (.ofNat 0)], 0, 0, 0, false, false⟩), (11, .k 30 [(3, .p 7 0)] 17 0 .normal)]⟩
def lf39 : LF := ⟨5, 52, [(0, .yl 11), (1, .p 9 0), (2, .p 8 0), (3, .p 10 0), (9, .s 1 44)], [], (.exit 2), [(0, .yl 11), (2, .p 8 0)], some lh39⟩
def lh40 : LH := ⟨7, 47, 51, [], []⟩
def lf40 : LF := ⟨4, 37, [(0, .x 0), (3, .nils), (4, .i .i64 (.ofNat 0)), (5, .i .i64 (.ofNat 0))], [], (.exit 0), [(3, .nils)], some lh40⟩
noncomputable def tab4 : Tab := addLps (addLps (addLps ({ tabk with hyp := hy4 }) 30 fi30 [⟨7777777, 30, [], [3], .goto 7777777, [], none⟩]) 124 fi124 [lf39]) 31 fi31 [lf40]
theorem run4 (e : Nat) : Go.AX.okB (call tab4 9000 3 [.x 0] ⟨H0 e , 7, 0, 0⟩) = true := by kernel_rfl
noncomputable def nu4 (s : LB) : List Value := [St' s,
  .int .i64 ((s.length : Int)),
  .int .i64 ((numV 10 9 s)),
  .bool (numB 10 9 s),
  .int .i64 ((numV 10 9 s)),
  .bool (numB 10 9 s),
  .int .i64 ((numV 16 7 s)),
  .bool (numB 16 7 s),
  .int .i64 ((numV 16 7 s)),
  .bool (numB 16 7 s),
  St' ((unS s).getD []),
  unE s,
  St' ((unS s).getD []),
  .int .i64 ((unC s)),
  .bool (tokS s),
  .bool (tokS s),
  St' (lowS s),
  St' (lowS s),
  St' (trQ s),
  St' (trQ s),
  .int .i64 ((unC s)),
  St' (escS s),
  St' (escS s),
  St' ((lsI [] s).2),
  St' (trQ ((lsI [] s).2))]
def ro4 (s : LB) : List Value := [rwS ([] : List LB)]
theorem on4 (s : LB) : ∀ j, (nuL (nu4 s) j).oneCell' = true := nuL_one (l := nu4 s) (by unfold nu4; simp only [List.all_cons, List.all_nil, Bool.and_true, Bool.true_and, unE_one]; rfl)
theorem path4 (s : LB) (b0 : s.length ≤ 9223372036854775807) (h0 : ¬ (400 < (s.length : Int))) (h4 : ((lsI [] s).1).length = 0) (h5 : ((trQ ((lsI [] s).2)).length : Int) = 0) (w : World) (hl : laidE w) : CwR 3 #[St' s] w (.bool true) := by
  have : (lowS s).length = s.length := List.length_map ..
  have := trQ_len s
  have := escS_len s
  have hls := lsI_len s []; simp only [List.length_nil, Nat.zero_add] at hls
  have := lsq_len s
  have := trQ_len ((lsI [] s).2)
  have ho : ∀ k r, (k, r) ∈ hy4 → HOk (cx (nuX (nu4 s) (rX (ro4 s) (fun _ => .bool true))) (nuX_one (on4 s)) 1 laidE laidE_stab) k r := by
    unfold hy4
    exact hc (kRn (denX rfl)) <|
     hc (lnV rfl rfl (by omega)) <|
     hc (gtcF rfl (by omega)) <|
     hc (hokNmO10 (s := s) (isX rfl) (isZ (m := 10) rfl) (isZ (m := 9) rfl) (denT2 (denX rfl) (denX rfl)) (by omega)) <|
     hc (hokNmR10 (s := s) (isX rfl) (denT2 (denX rfl) (denX rfl)) (by omega)) <|
     hc (hokNmO16 (s := s) (isX rfl) (isZ (m := 16) rfl) (isZ (m := 7) rfl) (denT2 (denX rfl) (denX rfl)) (by omega)) <|
     hc (hokNmR16 (s := s) (isX rfl) (denT2 (denX rfl) (denX rfl)) (by omega)) <|
     hc (hokUnesc (s := s) (isX rfl) (unDen rfl rfl) (by omega) (by omega)) <|
     hc (hokUnR (s := s) (isX rfl) (unDenR rfl rfl) (by omega) (by omega)) <|
     hc (hokTokA (s := s) (isX rfl) (denX rfl) (by omega) (by omega)) <|
     hc (hokTokR (s := s) (isX rfl) (denX rfl) (by omega) (by omega)) <|
     hc (kEqB (isX rfl) (isX rfl)) <|
     hc (hokLower (s := s) (isX rfl) (denX rfl) (by omega) (by omega)) <|
     hc (hokLowerR (s := s) (isX rfl) (denX rfl) (by omega) (by omega)) <|
     hc (kEqS (isX rfl) (isX rfl) (decide_eq_true rfl)) <|
     hc (hokTrim (s := s) (isX rfl) (isSx (l := [u8 32, u8 9]) 2 2336 rfl) (denX (congrArg (fun l => St' l) (trSQ _).symm)) (by omega) (by omega)) <|
     hc (hokQTrim (s := s) (isX rfl) (denX rfl) (by omega) (by omega)) <|
     hc (kEqS (isX rfl) (isX rfl) (decide_eq_true rfl)) <|
     hc (eqXT rfl rfl (by omega)) <|
     hc (kEqB (isX rfl) (isX rfl)) <|
     hc (eqXT rfl rfl (by omega)) <|
     hc (kEqB (isX rfl) (isX rfl)) <|
     hc (kEqS (isX rfl) (isX rfl) (decide_eq_true rfl)) <|
     hc (hokCodeE rfl (denX rfl)) <|
     hc (eqXT rfl rfl (by omega)) <|
     hc (hokEscape (s := s) (isX rfl) (denX rfl) (by omega) (by omega)) <|
     hc (hokEscR (s := s) (isX rfl) (denX rfl) (by omega) (by omega)) <|
     hc (kEqS (isX rfl) (isX rfl) (decide_eq_true rfl)) <|
     hc (hokTrim (s := ((lsI [] s).2)) (isX rfl) (isSx (l := [u8 32, u8 9]) 2 2336 rfl) (denX (congrArg (fun l => St' l) (trSQ _).symm)) (by omega) (by omega)) <|
     hc (kNeS (isX rfl) (isSx (l := ([] : LB)) 0 0 rfl) (bnF (nilT (by omega)))) <|
     hnil
  exact runP (tb := tab4) (AllOk.lp1 (AllOk.lp1 (AllOk.lp1 ((tabkOk (nuX (nu4 s) (rX (ro4 s) (fun _ => .bool true))) (nuX_one (on4 s))).hyps ho) (by omega) fi30_at fi30_body (lfCons (.inr ⟨mkA30, mkB30, _, Tryd.func30, mkC30⟩) lfNil)) (by omega) (get_lps2 (by omega) (by omega) fi124_at) fi124_body (lfCons (lpKnown rfl ⟨1, keySp7, lfOkSp7_0 (l := lf39) (h := lh39) ((lsI [] s).1) ((lsI [] s).2) (by assumption) (0, s, ([] : List LB)) (mkISp7 ((lsI [] s).1) ((lsI [] s).2) 0 s ([] : List LB) ⟨by simp, rfl, by omega, by simp only [List.length_nil]; omega, fun _ => rfl, fun h => by omega, by omega⟩) rfl (by kernel_rfl) (th0 := [(0, .x 0)]) (sg0 := []) (fun X => thXv (v := St' s) rfl rfl (thNil)) (by kernel_rfl) (thx := [(23, .x 0)]) (thXv (v := St' ((lsI [] s).2)) rfl rfl (thNil)) (by kernel_rfl)⟩) lfNil)) (by omega) (get_lps2 (by omega) (by omega) (get_lps2 (by omega) (by omega) fi31_at)) fi31_body (lfCons (lpKnown rfl ⟨0, keyLs, lfOkLs_0 (l := lf40) (h := lh40) s (lsQ [] s) (by omega) (by omega) (0, (0 : Int), (0 : Int), ([] : List LB)) (mkILs s (lsQ [] s) 0 (0 : Int) (0 : Int) ([] : List LB) ⟨by omega, by omega, by omega, fun _ => by rw [md_nil]; rfl, fun h => by omega, by simp, fun _ => rfl, fun h => by omega, by omega⟩) rfl (by kernel_rfl) (th0 := [(0, .x 0), (1, .i .i64 (.ofNat 0)), (2, .i .i64 (.ofNat 0))]) (sg0 := []) (fun X => thXv (v := St' s) rfl rfl (thCons (show Is _ (.i .i64 (.ofNat 0)) (.int .i64 ((0 : Int))) from isTo (v := .int .i64 0) (isI _ _) (by first | rfl | (congr 1; omega))) (thCons (show Is _ (.i .i64 (.ofNat 0)) (.int .i64 ((0 : Int))) from isTo (v := .int .i64 0) (isI _ _) (by first | rfl | (congr 1; omega))) (thNil)))) (by kernel_rfl) (thx := []) (thNil) (by kernel_rfl)⟩) lfNil)) rfl (get_lps2 (by omega) (by omega) (get_lps2 (by omega) (by omega) (get_lps2 (by omega) (by omega) fi3_at))) fiB3 (fun e => run4 e ) (args := [St' s]) (by simp only [RelL, Rel]; exact ⟨_, _, rfl, rfl, rfl⟩) w hl
end Go.Proofs.YtacflaaahanhgaaDoor.octetTells
