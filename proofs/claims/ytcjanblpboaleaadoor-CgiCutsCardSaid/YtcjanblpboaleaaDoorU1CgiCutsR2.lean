/- A part of the proof: what an interpreter answers on partly known states is what the program answers. No condition. -/
import Derived.Test.YtcjanblpboaleaaDoorU1CgiCutsO11
set_option maxRecDepth 100000
set_option linter.unusedVariables false
set_option linter.unusedSimpArgs false
set_option maxHeartbeats 4000000
namespace Go.Proofs.YtcjanblpboaleaaDoor.cgiCuts
open Go Go.AX Go.Proofs Go.Proofs.YtcjanblpboaleaaDoor
def hy6 : LK := [(.bytes [], .x 1),
 (.rn, .x 2000001),
 (.len (.x 0), .x 2),
 (.bin .gtr (.x 2) (I6 1500), .b false),
 (.bin .eql (.x 3) (.x 6), .b true),
 (.bin .eql (.x 4) (.x 7), .b true),
 (.bin .eql (.x 5) (.x 8), .b true)]
def yi : LH := ⟨4, 40, 904, [(5, bk 42 [I6 1000, I6 0, .aL, .aL, I6 0, .s 0 0, .aL, .b false, .b false])], [(5, bk 42 [.und, .und, .und, .und, .x 4, .x 5, .aL, .b true, .b false])]⟩
def C5 : LF := ⟨4, 58, [(0, .p 5 0), (1, .x 0), (6, I6 0)], [], .ret, [(4, .x 3), (5, .ni)], some yi⟩
def lh172 : LH := ⟨4, 7, 7, yi.pre, [(5, bk 42 [.und, .und, .und, .und, .x 4, .x 5, .aL, .b true, .b false])]⟩
def lf172 : LF := ⟨4, 58, C5.pre, [], .ret, [(4, .x 3), (5, .ni)], some lh172⟩
def lh173 : LH := ⟨4, 14, 1004, [(4, .r 2000000 5 1 true), (6, bk 42 [I6 1000, I6 0, .aL, .aL, I6 0, .s 0 0, .aL, .b false, .b false])], [(6, bk 42 [.und, .und, .und, .und, .x 7, .x 8, .aL, .b true, .b false])]⟩
def lf173 : LF := ⟨9, 105, [(0, .x 0), (1, .sr 4), (6, .p 6 0), (9, .s 0 0), (10, .ni), (11, I6 0), (12, I6 0)], [5, 7, 8], (.exit 0), [(6, .p 6 0), (9, .x 6), (10, .ni)], some lh173⟩
noncomputable def tab6 : Tab := bL (bL ({ cD with hyp := hy6 }) 6 cS [lf172]) 3 jr [lf173]
theorem run6 : Go.AX.okB (call tab6 9000 3 [.x 0, .sr 4] ⟨j9 4 [.r 2000000 5 1 true] .leaf, 4 + List.length (α := aS) [.r 2000000 5 1 true], 0, 0⟩) = true := by kernel_rfl
def nu6 (s : LB) (bN : Nat) (bO : Nat) (bM : Nat) (at_ : List Int) : List Value := [St' s,
 St' ([] : LB),
 .int .i64 ((s.length : Int)),
 St' (List.drop (Int.toNat (JS s - (0 : Int))) s),
 .int .i64 ((nS s)),
 St' (RS s),
 St' (List.drop (Int.toNat (JS s - (0 : Int))) s),
 .int .i64 ((nS s)),
 St' (RS s)]
def ro6 (s : LB) (bN : Nat) (bO : Nat) (bM : Nat) (at_ : List Int) : List Value := [cg .u8 at_,
 af ([] : List LB)]
theorem on6 (s : LB) (bN : Nat) (bO : Nat) (bM : Nat) (at_ : List Int) : ∀ j, (bA (nu6 s bN bO bM at_) j).oneCell' = true := aV (l := nu6 s bN bO bM at_) rfl
theorem path6 (s : LB) (bN : Nat) (bO : Nat) (bM : Nat) (at_ : List Int) (b0 : s.length ≤ 9223372036854775807) (b1 : 1 ≤ at_.length) (b2 : ∀ n, n ∈ at_ → 0 ≤ n ∧ n ≤ 255) (b3 : at_.length ≤ 9223372036854775807) (h0 : ¬ (1500 < (s.length : Int))) (h1 : ¬ (wG s ((0 : Int) + (s.length : Int)) = 0)) (h2 : wG s ((0 : Int) + (s.length : Int)) = 1) (h3 : DS s = []) (w : World) (hl : aH w) (eL : nO w 1 (at_.map (Value.int .u8)) bN bO at_.length bM) : bp 3 #[St' s, .slice (some ⟨bN, bO, none⟩) at_.length bM] w (.bool true) := by
 have hn0 := hN0
 have hw2 := nR s ((0 : Int) + (s.length : Int))
 have hDp := BH s
 have hDl := BI s
 have ho : ∀ k r, (k, r) ∈ hy6 → aM (cx (bG (nu6 s bN bO bM at_) (rX (ro6 s bN bO bM at_) (fun _ => .bool true))) (bJ (on6 s bN bO bM at_)) 1 aH aQ) k r := by
  unfold hy6
  exact hc (kB0 rfl) <|hc (iI (aG rfl)) <|hc av <|hc cN <|hc (bu (aA rfl) (aA rfl) (decide_eq_true rfl)) <|hc qQ <|hc (bu (aA rfl) (aA rfl) (decide_eq_true rfl)) <|hnil
 exact rU (tb := tab6) (aq.bz (aq.bz ((ab (bG (nu6 s bN bO bM at_) (rX (ro6 s bN bO bM at_) (fun _ => .bool true))) (bJ (on6 s bN bO bM at_))).hyps ho) (by omega) cY cX (bK (bx rfl ⟨0, cW, mZ (l := C5) (l' := lf172) (h := yi) (h' := lh172) (m := 7) (ids := [0]) (gH := [3, 4, 5]) (sg1 := []) (sg2 := []) (bI.use (l := C5) (h := yi) (mc 5 s s (0 : Int) (by omega) (by omega) (by omega) mG (by decide) (by assumption) (by assumption)) (0, (0 : Int)) (gd ⟨by omega, by omega, fc s, fun _ => by omega, by omega, by omega, by omega, by omega⟩) rfl (by kernel_rfl) (ao := [(0, .x 0), (1, I6 0), (2, I6 0)]) (ai := []) (fun X => aB (v := St' s) (ad bS (ad (show Is _ (I6 0) (.int .i64 (((0 : Int) + (0 : Int)))) from bg (v := .int .i64 0) (ct _ _) (by first | rfl | (congr 1; omega))) (aI)))) (by kernel_rfl) (ak := [(3, .x 0), (4, .x 1), (5, .x 2)]) (aB (v := St' (List.drop (Int.toNat (JS s - (0 : Int))) s)) (aB (v := .int .i64 ((nS s))) (aB (v := St' (RS s)) (aI)))) (by kernel_rfl)) rfl rfl (by kernel_rfl)⟩) aj)) (by omega) (dv (by omega) (by omega) m8) lv (bK (bx rfl ⟨0, yw, bI.use (l := lf173) (h := lh173) (lfOkOa_1 s at_ (by assumption) (by assumption)) (0, (0 : Int), (0 : Int)) (eG ⟨by omega, by omega, by omega, by omega, by omega, fun _ => fc s, fun _ => rfl, by omega, by omega, by omega, by omega, by omega, by omega, by omega, by omega, by assumption, by omega, by omega, by omega⟩) rfl (by kernel_rfl) (ao := [(0, .x 0), (1, I6 0), (2, I6 0), (3, I6 0), (2000000, .x 2000000)]) (ai := []) (fun X => aB (v := St' s) (ad bS (ad bS (ad bS (aB (v := cg .u8 at_) (aI)))))) (by kernel_rfl) (ak := [(6, .x 0), (7, .x 1), (8, .x 2)]) (aB (v := St' (List.drop (Int.toNat (JS s - (0 : Int))) s)) (aB (v := .int .i64 ((nS s))) (aB (v := St' (RS s)) (aI)))) (by kernel_rfl)⟩) aj)) rfl (ez (by omega)) m0 [.r 2000000 5 1 true] [⟨bN, bO, at_.length, bM⟩] run6 (args := [St' s, .slice (some ⟨bN, bO, none⟩) at_.length bM]) ⟨_, _, rfl, rfl, ⟨_, _, rfl, rk (by decide) rfl eL.room, rfl⟩⟩ w hl rfl (by decide) (uW (eL.arg (T.dH _) rfl) uV) rfl
def hy7 : LK := [(.bytes [], .x 1),
 (.rn, .x 2000001),
 (.len (.x 0), .x 2),
 (.bin .gtr (.x 2) (I6 1500), .b false),
 (.bin .eql (.x 3) (.x 6), .b true),
 (.rl (.x 2000002) 2, .x 9),
 (.bin .gtr (.x 9) (I6 0), .b true),
 (.ra (.x 2000001) [], .x 2000001),
 (.rr (.x 2000001) (.x 2000002), .x 2000004),
 (.rf (.x 2000004) 2 32, .b true),
 (.rl (.x 2000003) 2, .x 10),
 (.bin .gtr (.x 10) (I6 0), .b true),
 (.rr (.x 2000001) (.x 2000003), .x 2000005),
 (.rf (.x 2000005) 2 32, .b true),
 (.bin .eql (.x 4) (.x 7), .b true),
 (.bin .eql (.x 5) (.x 8), .b true),
 (.rl (.x 2000004) 2, .x 11),
 (.rl (.x 2000005) 2, .x 12),
 (.bin .neq (.x 11) (.x 12), .b false)]
def yh : LH := ⟨4, 40, 904, [(5, bk 42 [I6 1000, I6 0, .aL, .aL, I6 0, .s 0 0, .aL, .b false, .b false])], [(5, bk 42 [.und, .und, .und, .und, .x 4, .x 5, .sr 41, .b true, .b false]), (41, .r 2000002 50 2 false)]⟩
def C4 : LF := ⟨4, 58, [(0, .p 5 0), (1, .x 0), (6, I6 0)], [], .ret, [(4, .x 3), (5, .ni)], some yh⟩
def lh175 : LH := ⟨4, 7, 8, yh.pre, [(5, bk 42 [.und, .und, .und, .und, .x 4, .x 5, .sr 7, .b true, .b false]), (7, .r 2000002 50 2 false)]⟩
def lf175 : LF := ⟨4, 58, C4.pre, [], .ret, [(4, .x 3), (5, .ni)], some lh175⟩
def lh176 : LH := ⟨4, 14, 1004, [(4, .r 2000000 5 1 true), (6, bk 42 [I6 1000, I6 0, .aL, .aL, I6 0, .s 0 0, .aL, .b false, .b false])], [(6, bk 42 [.und, .und, .und, .und, .x 7, .x 8, .sr 15, .b true, .b false]), (15, .r 2000003 50 2 false)]⟩
def lf176 : LF := ⟨9, 105, [(0, .x 0), (1, .sr 4), (6, .p 6 0), (9, .s 0 0), (10, .ni), (11, I6 0), (12, I6 0)], [5, 7, 8], (.exit 0), [(6, .p 6 0), (9, .x 6), (10, .ni)], some lh176⟩
def lh177 : LH := ⟨4, 1014, 1014, [(1007, .r 2000004 50 2 false), (1011, .r 2000005 50 2 false)], [(1007, .r 2000006 50 2 false), (1011, .r 2000007 50 2 false)]⟩
def lf177 : LF := ⟨4, 26, [(0, .sr 1007), (1, .sr 1011), (5, I6 0)], [], (.exit 0), [], some lh177⟩
noncomputable def tab7 : Tab := bL (bL (bL ({ cD with hyp := hy7 }) 6 cS [lf175]) 3 jr [lf176]) 16 AK [lf177]
theorem run7 : Go.AX.okB (call tab7 9000 3 [.x 0, .sr 4] ⟨j9 4 [.r 2000000 5 1 true] .leaf, 4 + List.length (α := aS) [.r 2000000 5 1 true], 0, 0⟩) = true := by kernel_rfl
def nu7 (s : LB) (bN : Nat) (bO : Nat) (bM : Nat) (at_ : List Int) : List Value := [St' s,
 St' ([] : LB),
 .int .i64 ((s.length : Int)),
 St' (List.drop (Int.toNat (JS s - (0 : Int))) s),
 .int .i64 ((nS s)),
 St' (RS s),
 St' (List.drop (Int.toNat (JS s - (0 : Int))) s),
 .int .i64 ((nS s)),
 St' (RS s),
 .int .i64 (((DS s).length : Int)),
 .int .i64 (((DS s).length : Int)),
 .int .i64 (((DS s).length : Int)),
 .int .i64 (((DS s).length : Int))]
def ro7 (s : LB) (bN : Nat) (bO : Nat) (bM : Nat) (at_ : List Int) : List Value := [cg .u8 at_,
 af ([] : List LB),
 aN aO (DS s),
 aN aO (DS s),
 aN aO (DS s),
 aN aO (DS s),
 aN aO (DS s),
 aN aO (DS s)]
theorem on7 (s : LB) (bN : Nat) (bO : Nat) (bM : Nat) (at_ : List Int) : ∀ j, (bA (nu7 s bN bO bM at_) j).oneCell' = true := aV (l := nu7 s bN bO bM at_) rfl
theorem path7 (s : LB) (bN : Nat) (bO : Nat) (bM : Nat) (at_ : List Int) (b0 : s.length ≤ 9223372036854775807) (b1 : 1 ≤ at_.length) (b2 : ∀ n, n ∈ at_ → 0 ≤ n ∧ n ≤ 255) (b3 : at_.length ≤ 9223372036854775807) (h0 : ¬ (1500 < (s.length : Int))) (h1 : ¬ (wG s ((0 : Int) + (s.length : Int)) = 0)) (h2 : wG s ((0 : Int) + (s.length : Int)) = 1) (h3 : ¬ (DS s = [])) (w : World) (hl : aH w) (eL : nO w 1 (at_.map (Value.int .u8)) bN bO at_.length bM) : bp 3 #[St' s, .slice (some ⟨bN, bO, none⟩) at_.length bM] w (.bool true) := by
 have hn0 := hN0
 have hw2 := nR s ((0 : Int) + (s.length : Int))
 have hDp := BH s
 have hDl := BI s
 have hD0 := List.length_pos_iff.2 (show DS s ≠ [] from by assumption)
 have ho : ∀ k r, (k, r) ∈ hy7 → aM (cx (bG (nu7 s bN bO bM at_) (rX (ro7 s bN bO bM at_) (fun _ => .bool true))) (bJ (on7 s bN bO bM at_)) 1 aH aQ) k r := by
  unfold hy7
  exact hc (kB0 rfl) <|hc (iI (aG rfl)) <|hc av <|hc cN <|hc (bu (aA rfl) (aA rfl) (decide_eq_true rfl)) <|hc (fQ cL (aA rfl) (aG rfl) (by first | omega | (simp <;> omega))) <|hc cZ <|hc (kRa0 (aA rfl)) <|hc (kRr (f := aO) (l := []) (m := (DS s)) (aA rfl) (aA rfl) (aG rfl)) <|hc (lV cL (aA rfl) (by first | omega | (simp <;> omega)) (by first | omega | (simp <;> omega))) <|hc (fQ cL (aA rfl) (aG rfl) (by first | omega | (simp <;> omega))) <|hc cZ <|hc (kRr (f := aO) (l := []) (m := (DS s)) (aA rfl) (aA rfl) (aG rfl)) <|hc (lV cL (aA rfl) (by first | omega | (simp <;> omega)) (by first | omega | (simp <;> omega))) <|hc qQ <|hc (bu (aA rfl) (aA rfl) (decide_eq_true rfl)) <|hc (fQ cL (aA rfl) (aG rfl) (by first | omega | (simp <;> omega))) <|hc (fQ cL (aA rfl) (aG rfl) (by first | omega | (simp <;> omega))) <|hc (yy (aA rfl) (aA rfl) (neF (by omega))) <|hnil
 exact rU (tb := tab7) (aq.bz (aq.bz (aq.bz ((ab (bG (nu7 s bN bO bM at_) (rX (ro7 s bN bO bM at_) (fun _ => .bool true))) (bJ (on7 s bN bO bM at_))).hyps ho) (by omega) cY cX (bK (bx rfl ⟨0, cW, mZ (l := C4) (l' := lf175) (h := yh) (h' := lh175) (m := 7) (ids := [0]) (gH := [3, 4, 5, 2000002]) (sg1 := []) (sg2 := [(7, 41)]) (bI.use (l := C4) (h := yh) (mb 5 s s (0 : Int) (by omega) (by omega) (by omega) mG (by decide) (by assumption) (by assumption)) (0, (0 : Int)) (gd ⟨by omega, by omega, fc s, fun _ => by omega, by omega, by omega, by omega, by omega⟩) rfl (by kernel_rfl) (ao := [(0, .x 0), (1, I6 0), (2, I6 0)]) (ai := []) (fun X => aB (v := St' s) (ad bS (ad (show Is _ (I6 0) (.int .i64 (((0 : Int) + (0 : Int)))) from bg (v := .int .i64 0) (ct _ _) (by first | rfl | (congr 1; omega))) (aI)))) (by kernel_rfl) (ak := [(3, .x 0), (4, .x 1), (5, .x 2), (2000002, .x 2000000)]) (aB (v := St' (List.drop (Int.toNat (JS s - (0 : Int))) s)) (aB (v := .int .i64 ((nS s))) (aB (v := St' (RS s)) (aB (v := aN aO (DS s)) (aI))))) (by kernel_rfl)) rfl rfl (by kernel_rfl)⟩) aj)) (by omega) (dv (by omega) (by omega) m8) lv (bK (bx rfl ⟨0, yw, bI.use (l := lf176) (h := lh176) (lfOkOa_2 s at_ (by assumption) (by assumption)) (0, (0 : Int), (0 : Int)) (eG ⟨by omega, by omega, by omega, by omega, by omega, fun _ => fc s, fun _ => rfl, by omega, by omega, by omega, by omega, by omega, by omega, by omega, by omega, by assumption, by omega, by omega, by omega⟩) rfl (by kernel_rfl) (ao := [(0, .x 0), (1, I6 0), (2, I6 0), (3, I6 0), (2000000, .x 2000000)]) (ai := []) (fun X => aB (v := St' s) (ad bS (ad bS (ad bS (aB (v := cg .u8 at_) (aI)))))) (by kernel_rfl) (ak := [(6, .x 0), (7, .x 1), (8, .x 2), (2000003, .x 2000000)]) (aB (v := St' (List.drop (Int.toNat (JS s - (0 : Int))) s)) (aB (v := .int .i64 ((nS s))) (aB (v := St' (RS s)) (aB (v := aN aO (DS s)) (aI))))) (by kernel_rfl)⟩) aj)) (by omega) (dv (by omega) (by omega) (dv (by omega) (by omega) aX5)) aG2 (bK (bx rfl ⟨0, keySm0, bI.use (l := lf177) (h := lh177) (aF5 (DS s)) (0, (0 : Int)) (Cg ⟨by omega, by omega, by omega, hDp, by omega⟩) rfl (by kernel_rfl) (ao := [(0, I6 0), (2000000, .x 2000004), (2000001, .x 2000005)]) (ai := []) (fun X => ad bS (aB (v := aN aO (DS s)) (aB (v := aN aO (DS s)) (aI)))) (by kernel_rfl) (ak := [(2000006, .x 2000000), (2000007, .x 2000001)]) (aB (v := aN aO (DS s)) (aB (v := aN aO (DS s)) (aI))) (by kernel_rfl)⟩) aj)) rfl (dv (by omega) (by omega) (ez (by omega))) m0 [.r 2000000 5 1 true] [⟨bN, bO, at_.length, bM⟩] run7 (args := [St' s, .slice (some ⟨bN, bO, none⟩) at_.length bM]) ⟨_, _, rfl, rfl, ⟨_, _, rfl, rk (by decide) rfl eL.room, rfl⟩⟩ w hl rfl (by decide) (uW (eL.arg (T.dH _) rfl) uV) rfl
def hy8 : LK := [(.bytes [], .x 1),
 (.rn, .x 2000001),
 (.len (.x 0), .x 2),
 (.bin .gtr (.x 2) (I6 1500), .b false),
 (.call 7 [.aZ 63 (.ag [.x 3, .x 4])], .x 3),
 (.call 7 [.aZ 63 (.ag [.x 5, .x 6])], .x 5),
 (.bin .eql (.x 3) (.x 5), .b true)]
def yg : LH := ⟨4, 40, 904, [(5, bk 42 [I6 1000, I6 0, .aL, .aL, I6 0, .s 0 0, .aL, .b false, .b false])], []⟩
def C3 : LF := ⟨4, 58, [(0, .p 5 0), (1, .x 0), (6, I6 0)], [], .ret, [(4, .s 0 0), (5, .aZ 63 (.ag [.x 3, .x 4]))], some yg⟩
def lh179 : LH := ⟨4, 7, 7, yg.pre, []⟩
def lf179 : LF := ⟨4, 58, C3.pre, [], .ret, [(4, .s 0 0), (5, .aZ 63 (.ag [.x 3, .x 4]))], some lh179⟩
def lh180 : LH := ⟨4, 14, 1004, [(4, .r 2000000 5 1 true), (6, bk 42 [I6 1000, I6 0, .aL, .aL, I6 0, .s 0 0, .aL, .b false, .b false])], []⟩
def lf180 : LF := ⟨9, 105, [(0, .x 0), (1, .sr 4), (6, .p 6 0), (9, .s 0 0), (10, .ni), (11, I6 0), (12, I6 0)], [5, 7, 8], (.exit 0), [(10, .aZ 63 (.ag [.x 5, .x 6]))], some lh180⟩
noncomputable def tab8 : Tab := bL (bL ({ cD with hyp := hy8 }) 6 cS [lf179]) 3 jr [lf180]
theorem run8 : Go.AX.okB (call tab8 9000 3 [.x 0, .sr 4] ⟨j9 4 [.r 2000000 5 1 true] .leaf, 4 + List.length (α := aS) [.r 2000000 5 1 true], 0, 0⟩) = true := by kernel_rfl
def nu8 (s : LB) (bN : Nat) (bO : Nat) (bM : Nat) (at_ : List Int) : List Value := [St' s,
 St' ([] : LB),
 .int .i64 ((s.length : Int)),
 .int .i64 ((kS s)),
 St' (mS s),
 .int .i64 ((kS s)),
 St' (mS s)]
def ro8 (s : LB) (bN : Nat) (bO : Nat) (bM : Nat) (at_ : List Int) : List Value := [cg .u8 at_,
 af ([] : List LB)]
theorem on8 (s : LB) (bN : Nat) (bO : Nat) (bM : Nat) (at_ : List Int) : ∀ j, (bA (nu8 s bN bO bM at_) j).oneCell' = true := aV (l := nu8 s bN bO bM at_) rfl
theorem path8 (s : LB) (bN : Nat) (bO : Nat) (bM : Nat) (at_ : List Int) (b0 : s.length ≤ 9223372036854775807) (b1 : 1 ≤ at_.length) (b2 : ∀ n, n ∈ at_ → 0 ≤ n ∧ n ≤ 255) (b3 : at_.length ≤ 9223372036854775807) (h0 : ¬ (1500 < (s.length : Int))) (h1 : ¬ (wG s ((0 : Int) + (s.length : Int)) = 0)) (h2 : ¬ (wG s ((0 : Int) + (s.length : Int)) = 1)) (w : World) (hl : aH w) (eL : nO w 1 (at_.map (Value.int .u8)) bN bO at_.length bM) : bp 3 #[St' s, .slice (some ⟨bN, bO, none⟩) at_.length bM] w (.bool true) := by
 have hn0 := hN0
 have hw2 := nR s ((0 : Int) + (s.length : Int))
 have ho : ∀ k r, (k, r) ∈ hy8 → aM (cx (bG (nu8 s bN bO bM at_) (rX (ro8 s bN bO bM at_) (fun _ => .bool true))) (bJ (on8 s bN bO bM at_)) 1 aH aQ) k r := by
  unfold hy8
  exact hc (kB0 rfl) <|hc (iI (aG rfl)) <|hc av <|hc cN <|hc (zt (kv := (kS s)) (m := (mS s)) (isErr (aA rfl) (aA rfl)) (aG rfl)) <|hc (zt (kv := (kS s)) (m := (mS s)) (isErr (aA rfl) (aA rfl)) (aG rfl)) <|hc qQ <|hnil
 exact rU (tb := tab8) (aq.bz (aq.bz ((ab (bG (nu8 s bN bO bM at_) (rX (ro8 s bN bO bM at_) (fun _ => .bool true))) (bJ (on8 s bN bO bM at_))).hyps ho) (by omega) cY cX (bK (bx rfl ⟨0, cW, mZ (l := C3) (l' := lf179) (h := yg) (h' := lh179) (m := 7) (ids := [0]) (gH := [3, 4]) (sg1 := []) (sg2 := []) (bI.use (l := C3) (h := yg) (ma 5 s s (0 : Int) (by omega) (by omega) (by omega) mG (by decide) (by omega)) (0, (0 : Int)) (gd ⟨by omega, by omega, fc s, fun _ => by omega, by omega, by omega, by omega, by omega⟩) rfl (by kernel_rfl) (ao := [(0, .x 0), (1, I6 0), (2, I6 0)]) (ai := []) (fun X => aB (v := St' s) (ad bS (ad (show Is _ (I6 0) (.int .i64 (((0 : Int) + (0 : Int)))) from bg (v := .int .i64 0) (ct _ _) (by first | rfl | (congr 1; omega))) (aI)))) (by kernel_rfl) (ak := [(3, .x 0), (4, .x 1)]) (aB (v := .int .i64 ((kS s))) (aB (v := St' (mS s)) (aI))) (by kernel_rfl)) rfl rfl (by kernel_rfl)⟩) aj)) (by omega) (dv (by omega) (by omega) m8) lv (bK (bx rfl ⟨0, yw, bI.use (l := lf180) (h := lh180) (lfOkOa_3 s at_ (by omega)) (0, (0 : Int), (0 : Int)) (eG ⟨by omega, by omega, by omega, by omega, by omega, fun _ => fc s, fun _ => rfl, by omega, by omega, by omega, by omega, by omega, by omega, by omega, by omega, by assumption, by omega, by omega, by omega⟩) rfl (by kernel_rfl) (ao := [(0, .x 0), (1, I6 0), (2, I6 0), (3, I6 0), (2000000, .x 2000000)]) (ai := []) (fun X => aB (v := St' s) (ad bS (ad bS (ad bS (aB (v := cg .u8 at_) (aI)))))) (by kernel_rfl) (ak := [(5, .x 0), (6, .x 1)]) (aB (v := .int .i64 ((kS s))) (aB (v := St' (mS s)) (aI))) (by kernel_rfl)⟩) aj)) rfl (ez (by omega)) m0 [.r 2000000 5 1 true] [⟨bN, bO, at_.length, bM⟩] run8 (args := [St' s, .slice (some ⟨bN, bO, none⟩) at_.length bM]) ⟨_, _, rfl, rfl, ⟨_, _, rfl, rk (by decide) rfl eL.room, rfl⟩⟩ w hl rfl (by decide) (uW (eL.arg (T.dH _) rfl) uV) rfl
end Go.Proofs.YtcjanblpboaleaaDoor.cgiCuts
