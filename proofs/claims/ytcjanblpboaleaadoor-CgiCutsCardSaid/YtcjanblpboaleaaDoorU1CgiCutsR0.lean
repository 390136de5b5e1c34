/- A part of the proof: what an interpreter answers on partly known states is what the program answers. No condition. -/
import Derived.Test.YtcjanblpboaleaaDoorU1CgiCutsO11
set_option maxRecDepth 100000
set_option linter.unusedVariables false
set_option linter.unusedSimpArgs false
set_option maxHeartbeats 4000000
namespace Go.Proofs.YtcjanblpboaleaaDoor.cgiCuts
open Go Go.AX Go.Proofs Go.Proofs.YtcjanblpboaleaaDoor
def hy0 : LK := [(.bytes [], .x 1),
 (.rn, .x 2000000),
 (.len (.x 0), .x 2),
 (.bin .gtr (.x 2) (I6 1500), .b false)]
def ya : LH := ⟨4, 40, 904, [(4, bk 42 [I6 1000, I6 0, .aL, .aL, I6 0, .s 0 0, .aL, .b false, .b false])], [(4, bk 42 [.und, .und, .und, .und, .und, .und, .und, .b false, .b false])]⟩
def lf53 : LF := ⟨4, 58, [(0, .p 4 0), (1, .x 0), (6, I6 0)], [], (.exit 0), [(0, .p 4 0), (1, .x 3)], some ya⟩
def lh54 : LH := ⟨4, 6, 6, ya.pre, [(4, bk 42 [.und, .und, .und, .und, .und, .und, .und, .b false, .b false])]⟩
def lf54 : LF := ⟨4, 58, lf53.pre, [], (.exit 0), [(0, .p 4 0), (1, .x 3)], some lh54⟩
def lh91 : LH := ⟨4, 14, 1004, [(5, bk 42 [I6 1000, I6 0, .aL, .aL, I6 0, .s 0 0, .aL, .b false, .b false])], [(5, bk 42 [.und, .und, .und, .und, .und, .und, .und, .b false, .b false])]⟩
def lf91 : LF := ⟨9, 105, [(0, .x 0), (1, .es), (6, .p 5 0), (9, .s 0 0), (10, .ni), (11, I6 0), (12, I6 0)], [5, 7, 8], (.exit 0), [(6, .p 5 0), (9, .s 0 0), (10, .ni)], some lh91⟩
noncomputable def tab0 : Tab := bL (bL ({ cD with hyp := hy0 }) 6 cS [lf54]) 3 jr [lf91]
theorem run0 (e : Nat) : Go.AX.okB (call tab0 9000 3 [.x 0, .es] ⟨H0 e , 4, 0, 0⟩) = true := by kernel_rfl
def nu0 (s : LB) (ba : Option Addr) (bY : Nat) : List Value := [St' s,
 St' ([] : LB),
 .int .i64 ((s.length : Int)),
 St' s]
def ro0 (s : LB) (ba : Option Addr) (bY : Nat) : List Value := [af ([] : List LB)]
theorem on0 (s : LB) (ba : Option Addr) (bY : Nat) : ∀ j, (bA (nu0 s ba bY) j).oneCell' = true := aV (l := nu0 s ba bY) rfl
theorem path0 (s : LB) (ba : Option Addr) (bY : Nat) (b0 : s.length ≤ 9223372036854775807) (h0 : ¬ (1500 < (s.length : Int))) (h1 : wG s ((0 : Int) + (s.length : Int)) = 0) (w : World) (hl : aH w) : bp 3 #[St' s, .slice ba 0 bY] w (.bool true) := by
 have hn0 := hN0
 have ho : ∀ k r, (k, r) ∈ hy0 → aM (cx (bG (nu0 s ba bY) (rX (ro0 s ba bY) (fun _ => .bool true))) (bJ (on0 s ba bY)) 1 aH aQ) k r := by
  unfold hy0
  exact hc (kB0 rfl) <|hc (iI (aG rfl)) <|hc av <|hc cN <|hnil
 exact pG (tb := tab0) (aq.bz (aq.bz ((ab (bG (nu0 s ba bY) (rX (ro0 s ba bY) (fun _ => .bool true))) (bJ (on0 s ba bY))).hyps ho) (by omega) cY cX (bK (bx rfl ⟨0, cW, mZ (l := lf53) (l' := lf54) (h := ya) (h' := lh54) (m := 6) (ids := [0]) (gH := [3]) (sg1 := []) (sg2 := []) (bI.use (l := lf53) (h := ya) (aL9 4 s s (0 : Int) (by omega) (by omega) (by omega) mG (by decide) (by assumption)) (0, (0 : Int)) (gd ⟨by omega, by omega, fc s, fun _ => by omega, by omega, by omega, by omega, by omega⟩) rfl (by kernel_rfl) (ao := [(0, .x 0), (1, I6 0), (2, I6 0)]) (ai := []) (fun X => aB (v := St' s) (ad bS (ad (show Is _ (I6 0) (.int .i64 (((0 : Int) + (0 : Int)))) from bg (v := .int .i64 0) (ct _ _) (by first | rfl | (congr 1; omega))) (aI)))) (by kernel_rfl) (ak := [(3, .x 0)]) (aB (v := St' s) (aI)) (by kernel_rfl)) rfl rfl (by kernel_rfl)⟩) aj)) (by omega) (dv (by omega) (by omega) m8) lv (bK (bx rfl ⟨0, yu, bI.use (l := lf91) (h := lh91) (lfOkOe_0 s (by assumption)) (0, (0 : Int), (0 : Int)) (eF ⟨by omega, by omega, by omega, by omega, by omega, fun _ => fc s, fun _ => rfl, by omega, by omega, by omega, by omega, by omega, by omega, by omega, by omega, by omega⟩) rfl (by kernel_rfl) (ao := [(0, .x 0), (1, I6 0), (2, I6 0), (3, I6 0)]) (ai := []) (fun X => aB (v := St' s) (ad bS (ad bS (ad bS (aI))))) (by kernel_rfl) (ak := []) (aI) (by kernel_rfl)⟩) aj)) rfl (ez (by omega)) m0 (fun e => run0 e ) (args := [St' s, .slice ba 0 bY]) (by simp only [aJ, Rel]; exact ⟨_, _, rfl, rfl, ⟨_, _, rfl, ⟨_, _, rfl⟩, rfl⟩⟩) w hl
def hy1 : LK := [(.bytes [], .x 1),
 (.rn, .x 2000000),
 (.len (.x 0), .x 2),
 (.bin .gtr (.x 2) (I6 1500), .b false),
 (.bin .eql (.x 3) (.x 6), .b true),
 (.bin .eql (.x 4) (.x 7), .b true),
 (.bin .eql (.x 5) (.x 8), .b true)]
def yZ : LH := ⟨4, 40, 904, [(4, bk 42 [I6 1000, I6 0, .aL, .aL, I6 0, .s 0 0, .aL, .b false, .b false])], [(4, bk 42 [.und, .und, .und, .und, .x 4, .x 5, .aL, .b true, .b false])]⟩
def lf92 : LF := ⟨4, 58, [(0, .p 4 0), (1, .x 0), (6, I6 0)], [], .ret, [(4, .x 3), (5, .ni)], some yZ⟩
def lh93 : LH := ⟨4, 6, 6, yZ.pre, [(4, bk 42 [.und, .und, .und, .und, .x 4, .x 5, .aL, .b true, .b false])]⟩
def lf93 : LF := ⟨4, 58, lf92.pre, [], .ret, [(4, .x 3), (5, .ni)], some lh93⟩
def lh94 : LH := ⟨4, 14, 1004, [(5, bk 42 [I6 1000, I6 0, .aL, .aL, I6 0, .s 0 0, .aL, .b false, .b false])], [(5, bk 42 [.und, .und, .und, .und, .x 7, .x 8, .aL, .b true, .b false])]⟩
def lf94 : LF := ⟨9, 105, [(0, .x 0), (1, .es), (6, .p 5 0), (9, .s 0 0), (10, .ni), (11, I6 0), (12, I6 0)], [5, 7, 8], (.exit 0), [(6, .p 5 0), (9, .x 6), (10, .ni)], some lh94⟩
noncomputable def tab1 : Tab := bL (bL ({ cD with hyp := hy1 }) 6 cS [lf93]) 3 jr [lf94]
theorem run1 (e : Nat) : Go.AX.okB (call tab1 9000 3 [.x 0, .es] ⟨H0 e , 4, 0, 0⟩) = true := by kernel_rfl
def nu1 (s : LB) (ba : Option Addr) (bY : Nat) : List Value := [St' s,
 St' ([] : LB),
 .int .i64 ((s.length : Int)),
 St' (List.drop (Int.toNat (JS s - (0 : Int))) s),
 .int .i64 ((nS s)),
 St' (RS s),
 St' (List.drop (Int.toNat (JS s - (0 : Int))) s),
 .int .i64 ((nS s)),
 St' (RS s)]
def ro1 (s : LB) (ba : Option Addr) (bY : Nat) : List Value := [af ([] : List LB)]
theorem on1 (s : LB) (ba : Option Addr) (bY : Nat) : ∀ j, (bA (nu1 s ba bY) j).oneCell' = true := aV (l := nu1 s ba bY) rfl
theorem path1 (s : LB) (ba : Option Addr) (bY : Nat) (b0 : s.length ≤ 9223372036854775807) (h0 : ¬ (1500 < (s.length : Int))) (h1 : ¬ (wG s ((0 : Int) + (s.length : Int)) = 0)) (h2 : wG s ((0 : Int) + (s.length : Int)) = 1) (h3 : DS s = []) (w : World) (hl : aH w) : bp 3 #[St' s, .slice ba 0 bY] w (.bool true) := by
 have hn0 := hN0
 have hw2 := nR s ((0 : Int) + (s.length : Int))
 have hDp := BH s
 have hDl := BI s
 have ho : ∀ k r, (k, r) ∈ hy1 → aM (cx (bG (nu1 s ba bY) (rX (ro1 s ba bY) (fun _ => .bool true))) (bJ (on1 s ba bY)) 1 aH aQ) k r := by
  unfold hy1
  exact hc (kB0 rfl) <|hc (iI (aG rfl)) <|hc av <|hc cN <|hc (bu (aA rfl) (aA rfl) (decide_eq_true rfl)) <|hc qQ <|hc (bu (aA rfl) (aA rfl) (decide_eq_true rfl)) <|hnil
 exact pG (tb := tab1) (aq.bz (aq.bz ((ab (bG (nu1 s ba bY) (rX (ro1 s ba bY) (fun _ => .bool true))) (bJ (on1 s ba bY))).hyps ho) (by omega) cY cX (bK (bx rfl ⟨0, cW, mZ (l := lf92) (l' := lf93) (h := yZ) (h' := lh93) (m := 6) (ids := [0]) (gH := [3, 4, 5]) (sg1 := []) (sg2 := []) (bI.use (l := lf92) (h := yZ) (mc 4 s s (0 : Int) (by omega) (by omega) (by omega) mG (by decide) (by assumption) (by assumption)) (0, (0 : Int)) (gd ⟨by omega, by omega, fc s, fun _ => by omega, by omega, by omega, by omega, by omega⟩) rfl (by kernel_rfl) (ao := [(0, .x 0), (1, I6 0), (2, I6 0)]) (ai := []) (fun X => aB (v := St' s) (ad bS (ad (show Is _ (I6 0) (.int .i64 (((0 : Int) + (0 : Int)))) from bg (v := .int .i64 0) (ct _ _) (by first | rfl | (congr 1; omega))) (aI)))) (by kernel_rfl) (ak := [(3, .x 0), (4, .x 1), (5, .x 2)]) (aB (v := St' (List.drop (Int.toNat (JS s - (0 : Int))) s)) (aB (v := .int .i64 ((nS s))) (aB (v := St' (RS s)) (aI)))) (by kernel_rfl)) rfl rfl (by kernel_rfl)⟩) aj)) (by omega) (dv (by omega) (by omega) m8) lv (bK (bx rfl ⟨0, yu, bI.use (l := lf94) (h := lh94) (lfOkOe_1 s (by assumption) (by assumption)) (0, (0 : Int), (0 : Int)) (eF ⟨by omega, by omega, by omega, by omega, by omega, fun _ => fc s, fun _ => rfl, by omega, by omega, by omega, by omega, by omega, by omega, by omega, by omega, by omega⟩) rfl (by kernel_rfl) (ao := [(0, .x 0), (1, I6 0), (2, I6 0), (3, I6 0)]) (ai := []) (fun X => aB (v := St' s) (ad bS (ad bS (ad bS (aI))))) (by kernel_rfl) (ak := [(6, .x 0), (7, .x 1), (8, .x 2)]) (aB (v := St' (List.drop (Int.toNat (JS s - (0 : Int))) s)) (aB (v := .int .i64 ((nS s))) (aB (v := St' (RS s)) (aI)))) (by kernel_rfl)⟩) aj)) rfl (ez (by omega)) m0 (fun e => run1 e ) (args := [St' s, .slice ba 0 bY]) (by simp only [aJ, Rel]; exact ⟨_, _, rfl, rfl, ⟨_, _, rfl, ⟨_, _, rfl⟩, rfl⟩⟩) w hl
def hy2 : LK := [(.bytes [], .x 1),
 (.rn, .x 2000000),
 (.len (.x 0), .x 2),
 (.bin .gtr (.x 2) (I6 1500), .b false),
 (.bin .eql (.x 3) (.x 6), .b true),
 (.rl (.x 2000001) 2, .x 9),
 (.bin .gtr (.x 9) (I6 0), .b true),
 (.ra (.x 2000000) [], .x 2000000),
 (.rr (.x 2000000) (.x 2000001), .x 2000003),
 (.rf (.x 2000003) 2 32, .b true),
 (.rl (.x 2000002) 2, .x 10),
 (.bin .gtr (.x 10) (I6 0), .b true),
 (.rr (.x 2000000) (.x 2000002), .x 2000004),
 (.rf (.x 2000004) 2 32, .b true),
 (.bin .eql (.x 4) (.x 7), .b true),
 (.bin .eql (.x 5) (.x 8), .b true),
 (.rl (.x 2000003) 2, .x 11),
 (.rl (.x 2000004) 2, .x 12),
 (.bin .neq (.x 11) (.x 12), .b false)]
def yY : LH := ⟨4, 40, 904, [(4, bk 42 [I6 1000, I6 0, .aL, .aL, I6 0, .s 0 0, .aL, .b false, .b false])], [(4, bk 42 [.und, .und, .und, .und, .x 4, .x 5, .sr 41, .b true, .b false]), (41, .r 2000001 50 2 false)]⟩
def lf95 : LF := ⟨4, 58, [(0, .p 4 0), (1, .x 0), (6, I6 0)], [], .ret, [(4, .x 3), (5, .ni)], some yY⟩
def lh96 : LH := ⟨4, 6, 7, yY.pre, [(4, bk 42 [.und, .und, .und, .und, .x 4, .x 5, .sr 6, .b true, .b false]), (6, .r 2000001 50 2 false)]⟩
def lf96 : LF := ⟨4, 58, lf95.pre, [], .ret, [(4, .x 3), (5, .ni)], some lh96⟩
def lh97 : LH := ⟨4, 14, 1004, [(5, bk 42 [I6 1000, I6 0, .aL, .aL, I6 0, .s 0 0, .aL, .b false, .b false])], [(5, bk 42 [.und, .und, .und, .und, .x 7, .x 8, .sr 15, .b true, .b false]), (15, .r 2000002 50 2 false)]⟩
def lf97 : LF := ⟨9, 105, [(0, .x 0), (1, .es), (6, .p 5 0), (9, .s 0 0), (10, .ni), (11, I6 0), (12, I6 0)], [5, 7, 8], (.exit 0), [(6, .p 5 0), (9, .x 6), (10, .ni)], some lh97⟩
def lh98 : LH := ⟨4, 1014, 1014, [(1007, .r 2000003 50 2 false), (1011, .r 2000004 50 2 false)], [(1007, .r 2000005 50 2 false), (1011, .r 2000006 50 2 false)]⟩
def lf98 : LF := ⟨4, 26, [(0, .sr 1007), (1, .sr 1011), (5, I6 0)], [], (.exit 0), [], some lh98⟩
noncomputable def tab2 : Tab := bL (bL (bL ({ cD with hyp := hy2 }) 6 cS [lf96]) 3 jr [lf97]) 16 AK [lf98]
theorem run2 (e : Nat) : Go.AX.okB (call tab2 9000 3 [.x 0, .es] ⟨H0 e , 4, 0, 0⟩) = true := by kernel_rfl
def nu2 (s : LB) (ba : Option Addr) (bY : Nat) : List Value := [St' s,
 St' ([] : LB),
 .int .i64 ((s.length : Int)),
 St' (List.drop (Int.toNat (JS s - (0 : Int))) s),
 .int .i64 ((nS s)),
 St' (RS s),
 St' (List.drop (Int.toNat (JS s - (0 : Int))) s),
 .int .i64 ((nS s)),
 St' (RS s),
 .int .i64 (((DS s).length : Int)),
 .int .i64 (((DS s).length : Int)),
 .int .i64 (((DS s).length : Int)),
 .int .i64 (((DS s).length : Int))]
def ro2 (s : LB) (ba : Option Addr) (bY : Nat) : List Value := [af ([] : List LB),
 aN aO (DS s),
 aN aO (DS s),
 aN aO (DS s),
 aN aO (DS s),
 aN aO (DS s),
 aN aO (DS s)]
theorem on2 (s : LB) (ba : Option Addr) (bY : Nat) : ∀ j, (bA (nu2 s ba bY) j).oneCell' = true := aV (l := nu2 s ba bY) rfl
theorem path2 (s : LB) (ba : Option Addr) (bY : Nat) (b0 : s.length ≤ 9223372036854775807) (h0 : ¬ (1500 < (s.length : Int))) (h1 : ¬ (wG s ((0 : Int) + (s.length : Int)) = 0)) (h2 : wG s ((0 : Int) + (s.length : Int)) = 1) (h3 : ¬ (DS s = [])) (w : World) (hl : aH w) : bp 3 #[St' s, .slice ba 0 bY] w (.bool true) := by
 have hn0 := hN0
 have hw2 := nR s ((0 : Int) + (s.length : Int))
 have hDp := BH s
 have hDl := BI s
 have hD0 := List.length_pos_iff.2 (show DS s ≠ [] from by assumption)
 have ho : ∀ k r, (k, r) ∈ hy2 → aM (cx (bG (nu2 s ba bY) (rX (ro2 s ba bY) (fun _ => .bool true))) (bJ (on2 s ba bY)) 1 aH aQ) k r := by
  unfold hy2
  exact hc (kB0 rfl) <|hc (iI (aG rfl)) <|hc av <|hc cN <|hc (bu (aA rfl) (aA rfl) (decide_eq_true rfl)) <|hc (fQ cL (aA rfl) (aG rfl) (by first | omega | (simp <;> omega))) <|hc cZ <|hc (kRa0 (aA rfl)) <|hc (kRr (f := aO) (l := []) (m := (DS s)) (aA rfl) (aA rfl) (aG rfl)) <|hc (lV cL (aA rfl) (by first | omega | (simp <;> omega)) (by first | omega | (simp <;> omega))) <|hc (fQ cL (aA rfl) (aG rfl) (by first | omega | (simp <;> omega))) <|hc cZ <|hc (kRr (f := aO) (l := []) (m := (DS s)) (aA rfl) (aA rfl) (aG rfl)) <|hc (lV cL (aA rfl) (by first | omega | (simp <;> omega)) (by first | omega | (simp <;> omega))) <|hc qQ <|hc (bu (aA rfl) (aA rfl) (decide_eq_true rfl)) <|hc (fQ cL (aA rfl) (aG rfl) (by first | omega | (simp <;> omega))) <|hc (fQ cL (aA rfl) (aG rfl) (by first | omega | (simp <;> omega))) <|hc (yy (aA rfl) (aA rfl) (neF (by omega))) <|hnil
 exact pG (tb := tab2) (aq.bz (aq.bz (aq.bz ((ab (bG (nu2 s ba bY) (rX (ro2 s ba bY) (fun _ => .bool true))) (bJ (on2 s ba bY))).hyps ho) (by omega) cY cX (bK (bx rfl ⟨0, cW, mZ (l := lf95) (l' := lf96) (h := yY) (h' := lh96) (m := 6) (ids := [0]) (gH := [3, 4, 5, 2000001]) (sg1 := []) (sg2 := [(6, 41)]) (bI.use (l := lf95) (h := yY) (mb 4 s s (0 : Int) (by omega) (by omega) (by omega) mG (by decide) (by assumption) (by assumption)) (0, (0 : Int)) (gd ⟨by omega, by omega, fc s, fun _ => by omega, by omega, by omega, by omega, by omega⟩) rfl (by kernel_rfl) (ao := [(0, .x 0), (1, I6 0), (2, I6 0)]) (ai := []) (fun X => aB (v := St' s) (ad bS (ad (show Is _ (I6 0) (.int .i64 (((0 : Int) + (0 : Int)))) from bg (v := .int .i64 0) (ct _ _) (by first | rfl | (congr 1; omega))) (aI)))) (by kernel_rfl) (ak := [(3, .x 0), (4, .x 1), (5, .x 2), (2000001, .x 2000000)]) (aB (v := St' (List.drop (Int.toNat (JS s - (0 : Int))) s)) (aB (v := .int .i64 ((nS s))) (aB (v := St' (RS s)) (aB (v := aN aO (DS s)) (aI))))) (by kernel_rfl)) rfl rfl (by kernel_rfl)⟩) aj)) (by omega) (dv (by omega) (by omega) m8) lv (bK (bx rfl ⟨0, yu, bI.use (l := lf97) (h := lh97) (lfOkOe_2 s (by assumption) (by assumption)) (0, (0 : Int), (0 : Int)) (eF ⟨by omega, by omega, by omega, by omega, by omega, fun _ => fc s, fun _ => rfl, by omega, by omega, by omega, by omega, by omega, by omega, by omega, by omega, by omega⟩) rfl (by kernel_rfl) (ao := [(0, .x 0), (1, I6 0), (2, I6 0), (3, I6 0)]) (ai := []) (fun X => aB (v := St' s) (ad bS (ad bS (ad bS (aI))))) (by kernel_rfl) (ak := [(6, .x 0), (7, .x 1), (8, .x 2), (2000002, .x 2000000)]) (aB (v := St' (List.drop (Int.toNat (JS s - (0 : Int))) s)) (aB (v := .int .i64 ((nS s))) (aB (v := St' (RS s)) (aB (v := aN aO (DS s)) (aI))))) (by kernel_rfl)⟩) aj)) (by omega) (dv (by omega) (by omega) (dv (by omega) (by omega) aX5)) aG2 (bK (bx rfl ⟨0, keySm0, bI.use (l := lf98) (h := lh98) (aF5 (DS s)) (0, (0 : Int)) (Cg ⟨by omega, by omega, by omega, hDp, by omega⟩) rfl (by kernel_rfl) (ao := [(0, I6 0), (2000000, .x 2000003), (2000001, .x 2000004)]) (ai := []) (fun X => ad bS (aB (v := aN aO (DS s)) (aB (v := aN aO (DS s)) (aI)))) (by kernel_rfl) (ak := [(2000005, .x 2000000), (2000006, .x 2000001)]) (aB (v := aN aO (DS s)) (aB (v := aN aO (DS s)) (aI))) (by kernel_rfl)⟩) aj)) rfl (dv (by omega) (by omega) (ez (by omega))) m0 (fun e => run2 e ) (args := [St' s, .slice ba 0 bY]) (by simp only [aJ, Rel]; exact ⟨_, _, rfl, rfl, ⟨_, _, rfl, ⟨_, _, rfl⟩, rfl⟩⟩) w hl
end Go.Proofs.YtcjanblpboaleaaDoor.cgiCuts
