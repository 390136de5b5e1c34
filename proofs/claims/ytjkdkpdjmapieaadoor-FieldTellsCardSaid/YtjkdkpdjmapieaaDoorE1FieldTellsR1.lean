/- A part of the proof: what an interpreter answers on partly known states is what the program answers. No condition. -/
import Derived.Test.YtjkdkpdjmapieaaDoorE1FieldTellsO9
set_option maxRecDepth 100000
set_option linter.unusedVariables false
set_option linter.unusedSimpArgs false
set_option maxHeartbeats 4000000
namespace Go.Proofs.YtjkdkpdjmapieaaDoor.fieldTells
open Go Go.AX Go.Proofs Go.Proofs.YtjkdkpdjmapieaaDoor
def hy3 : LK := [(.bytes [], .x 3),
  (.rn, .x 2000001),
  (.len (.x 0), .x 4),
  (.bin .gtr (.x 4) (I6 1500), .b false),
  (.rl (.x 2000000) 2, .x 5),
  (.bin .gtr (.x 5) (I6 20), .b false),
  (.len (.x 1), .x 6),
  (.bin .gtr (.x 6) (I6 100), .b false),
  (.len (.x 2), .x 7),
  (.bin .gtr (.x 7) (I6 100), .b false),
  (.call 8 [.x 0], .tu [.ag [.x 8, .x 9], .x 10]),
  (.call 12 [.x 0], .tu [.ag [.x 11, .x 12], .x 13]),
  (.eq 9 (.x 8) (.x 11), .b true),
  (.eq 9 (.x 9) (.x 12), .b true),
  (.call 13 [.x 10], .x 14),
  (.bin .eql (.x 14) (.x 13), .b true),
  (.rl (.x 2000002) 2, .x 15),
  (.rl (.x 2000004) 1, .x 16),
  (.rl (.x 2000006) 1, .x 17),
  (.bin .neq (.x 16) (.x 17), .b false),
  (.fK (.x 18) (.x 19), .b true),
  (.rl (.x 2000005) 2, .x 20),
  (.rl (.x 2000010) 2, .x 21),
  (.rl (.x 2000012) 2, .x 22),
  (.bin .neq (.x 21) (.x 22), .b false),
  (.rl (.x 2000011) 2, .x 23),
  (.di (.x 24) (I6 0), .x 25),
  (.len (.x 24), .x 26),
  (.fit (.x 24), .b true),
  (.bin .eql (.x 24) (.x 27), .b true)]
def lh97 : LH := ⟨4, 24, 54, [(4, .r 2000000 23 2 true)], [(4, .r 2000002 23 2 true)]⟩
def lf97 : LF := ⟨6, 140, [(1, .sr 4), (9, I6 0)], [0, 2, 3], (.exit 0), [(1, .sr 4)], some lh97⟩
def lh98 : LH := ⟨4, 104, 144, [(4, .r 2000002 23 2 true)], [(4, .r 2000003 23 2 true), (104, .r 2000004 9 1 false)]⟩
def lf98 : LF := ⟨3, 25, [(1, .x 1), (5, .aq), (8, .sr 4), (10, I6 0), (9, .x 15)], [], (.exit 0), [(5, .sr 104)], some lh98⟩
def lh99 : LH := ⟨4, 204, 244, [(4, .r 2000003 23 2 true)], [(4, .r 2000005 23 2 true), (204, .r 2000006 9 1 false)]⟩
def lf99 : LF := ⟨3, 31, [(1, .x 1), (5, .aq), (0, .sr 4), (6, I6 0)], [], (.exit 0), [(5, .sr 204)], some lh99⟩
def lh100 : LH := ⟨4, 244, 244, [(104, .r 2000004 9 1 false), (204, .r 2000006 9 1 false)], [(104, .r 2000007 9 1 false), (204, .r 2000008 9 1 false)]⟩
def lf100 : LF := ⟨4, 26, [(0, .sr 104), (1, .sr 204), (5, I6 0)], [], (.exit 0), [], some lh100⟩
def sJ : LH := ⟨4, 84, 704, [(4, .r 2000005 23 2 true)], [(4, .r 2000005 23 2 true)]⟩
def yg : LF := ⟨8888888, 0, [(0, .sr 4), (1, .x 1), (2, .x 2)], [], .normal, [(0, .x 18)], some sJ⟩
def lh102 : LH := ⟨4, 244, 244, sJ.pre, sJ.pre⟩
def lf102 : LF := ⟨8888888, 0, yg.pre, [], .normal, yg.post, some lh102⟩
def sI : LH := ⟨4, 184, 1004, [(4, .r 2000005 23 2 true)], [(4, .r 2000005 23 2 true)]⟩
def yf : LF := ⟨8888888, 0, [(0, .sr 4), (1, .x 1), (2, .x 2)], [], .normal, [(0, .x 19)], some sI⟩
def lh104 : LH := ⟨4, 244, 244, sI.pre, sI.pre⟩
def lf104 : LF := ⟨8888888, 0, yf.pre, [], .normal, yf.post, some lh104⟩
def lh105 : LH := ⟨4, 304, 344, [(4, .r 2000005 23 2 true)], [(4, .r 2000009 23 2 true), (304, .r 2000010 23 2 false)]⟩
def lf105 : LF := ⟨3, 25, [(1, .x 1), (5, .aq), (8, .sr 4), (10, I6 0), (9, .x 20)], [], (.exit 0), [(5, .sr 304)], some lh105⟩
def lh106 : LH := ⟨4, 604, 644, [(4, .r 2000009 23 2 true)], [(4, .r 2000011 23 2 true), (604, .r 2000012 23 2 false)]⟩
def lf106 : LF := ⟨3, 30, [(1, .x 1), (5, .aq), (0, .sr 4), (6, I6 0)], [], (.exit 0), [(5, .sr 604)], some lh106⟩
def lh107 : LH := ⟨4, 644, 644, [(304, .r 2000010 23 2 false), (604, .r 2000012 23 2 false)], [(304, .r 2000013 23 2 false), (604, .r 2000014 23 2 false)]⟩
def lf107 : LF := ⟨4, 26, [(0, .sr 304), (1, .sr 604), (5, I6 0)], [], (.exit 0), [], some lh107⟩
def lh108 : LH := ⟨4, 1104, 1144, [(4, .r 2000011 23 2 true), (644, bk 51 [.bX, .aq])], [(4, .r 2000015 23 2 true), (1104, bk 51 [.p 1104 0, .sy 1105]), (1105, .t 24 5)]⟩
def lf108 : LF := ⟨3, 22, [(3, .p 644 0), (6, .sr 4), (7, .x 23), (8, I6 0)], [], (.exit 0), [(3, .p 1104 0)], some lh108⟩
def lh109 : LH := ⟨4, 1204, 1244, [(4, .r 2000015 23 2 true)], [(4, .r 2000016 23 2 true)]⟩
def lf109 : LF := ⟨3, 27, [(0, .sr 4), (3, .s 0 0), (4, I6 0)], [], (.exit 0), [(3, .x 27)], some lh109⟩
noncomputable def tab3 : Tab := bI (bI (bI (bI (bI (bI (bI (bI (bI (bI (bI ({ bB with hyp := hy3 }) 4 fi4 [lf97]) 10 lR [lf98]) 15 lQ [lf99]) 14 Ab [lf100]) 16 lP [lf102]) 17 lO [lf104]) 9 fi9 [lf105]) 19 tX [lf106]) 18 Aa [lf107]) 7 fi7 [lf108]) 20 tW [lf109]
theorem run3 (e : Nat) : Go.AX.okB (call tab3 9000 4 [.x 0, .sr 4, .x 1, .x 2] ⟨fM 4 [.r 2000000 23 2 true] (H0 e ), 4 + List.length (α := aR) [.r 2000000 23 2 true], 0, 0⟩) = true := by kernel_rfl
noncomputable def nu3 (ln : LB) (aZ : Nat) (ad : Nat) (ab : Nat) (z : List (LB × LB)) (nm : LB) (wd : LB) : List Value := [St' ln,
  St' nm,
  St' wd,
  St' ([] : LB),
  .int .i64 ((ln.length : Int)),
  .int .i64 ((z.length : Int)),
  .int .i64 ((nm.length : Int)),
  .int .i64 ((wd.length : Int)),
  St' (pA ln),
  St' (pB ln),
  pE ln,
  St' (pA ln),
  St' (pB ln),
  .int .i64 ((pC ln)),
  .int .i64 ((pC ln)),
  .int .i64 ((z.length : Int)),
  .int .i64 (((av nm z).length : Int)),
  .int .i64 (((av nm z).length : Int)),
  .bool (bx (av nm z) wd),
  .bool (bx (av nm z) wd),
  .int .i64 ((z.length : Int)),
  .int .i64 (((bb nm z).length : Int)),
  .int .i64 (((bb nm z).length : Int)),
  .int .i64 ((z.length : Int)),
  St' (cC z),
  .int .u8 (bt (cC z) 0),
  .int .i64 (((cC z).length : Int)),
  St' (cC z)]
def ro3 (ln : LB) (aZ : Nat) (ad : Nat) (ab : Nat) (z : List (LB × LB)) (nm : LB) (wd : LB) : List Value := [aM aK z,
  aO ([] : List LB),
  aM aK z,
  aM aK z,
  aO (av nm z),
  aM aK z,
  aO (av nm z),
  aO (av nm z),
  aO (av nm z),
  aM aK z,
  aM aK (bb nm z),
  aM aK z,
  aM aK (bb nm z),
  aM aK (bb nm z),
  aM aK (bb nm z),
  aM aK z,
  aM aK z]
theorem on3 (ln : LB) (aZ : Nat) (ad : Nat) (ab : Nat) (z : List (LB × LB)) (nm : LB) (wd : LB) : ∀ j, (ai (nu3 ln aZ ad ab z nm wd) j).oneCell' = true := aQ (l := nu3 ln aZ ad ab z nm wd) (by unfold nu3; simp only [List.all_cons, List.all_nil, Bool.and_true, Bool.true_and, gF]; rfl)
theorem path3 (ln : LB) (aZ : Nat) (ad : Nat) (ab : Nat) (z : List (LB × LB)) (nm : LB) (wd : LB) (b0 : ln.length ≤ 9223372036854775807) (b1 : 1 ≤ z.length) (b2 : ∀ n, n ∈ z → dH n) (b3 : ∀ q, q ∈ z → q.1.length ≤ 140737488351232) (b4 : ∀ q, q ∈ z → q.2.length ≤ 140737488351232) (b5 : z.length ≤ 9223372036854775807) (b6 : nm.length ≤ 9223372036854775807) (b7 : wd.length ≤ 9223372036854775807) (h0 : ¬ (1500 < (ln.length : Int))) (h1 : ¬ (20 < (z.length : Int))) (h2 : ¬ (100 < (nm.length : Int))) (h3 : ¬ (100 < (wd.length : Int))) (h4 : dS z = true) (h6 : ¬ (av nm z = [])) (h8 : ¬ (bb nm z = [])) (w : World) (hl : aC w) (cQ : iJ w 2 (z.flatMap aK) aZ ad z.length ab) (dC : ∀ e, (H0 e ).get aZ = none) : bN 4 #[St' ln, .slice (some ⟨aZ, ad, none⟩) z.length ab, St' nm, St' wd] w (.bool true) := by
  have hn0 : ([] : LB).length = 0 := rfl
  have := eL nm z
  have := iF nm z
  have hlnl := yR z (by assumption)
  have := bF (cC z) 0; have := bG (cC z) 0
  have ho : ∀ k r, (k, r) ∈ hy3 → aL (cx (af (nu3 ln aZ ad ab z nm wd) (rX (ro3 ln aZ ad ab z nm wd) (fun _ => .bool true))) (ah (on3 ln aZ ad ab z nm wd)) 1 aC aG) k r := by
    unfold hy3
    exact hc (kB0 rfl) <|hc (da (aE rfl)) <|hc (au rfl rfl (by omega)) <|hc (bq rfl (by omega)) <|hc (bu a7 (aA rfl) (aE rfl) (by first | omega | (simp <;> omega))) <|hc (bq rfl (by omega)) <|hc (au rfl rfl (by omega)) <|hc (bq rfl (by omega)) <|hc (au rfl rfl (by omega)) <|hc (bq rfl (by omega)) <|hc (zy (ln := ln) (aA rfl) (lV (lW (aE rfl) (aE rfl)) (aE rfl))) <|hc (zx (ln := ln) (aA rfl) (lV (lW (aE rfl) (aE rfl)) (aE rfl))) <|hc (ij (aA rfl) (aA rfl) iM (decide_eq_true rfl)) <|hc (ij (aA rfl) (aA rfl) iM (decide_eq_true rfl)) <|hc (z7 rfl (aE rfl)) <|hc (lS rfl rfl (by omega)) <|hc (bu a7 (aA rfl) (aE rfl) (by first | omega | (simp <;> omega))) <|hc (eK (aA rfl) (aE rfl) (by first | omega | (simp <;> omega))) <|hc (eK (aA rfl) (aE rfl) (by first | omega | (simp <;> omega))) <|hc (oU (aA rfl) (aA rfl) (neF (by omega))) <|hc (yr (aA rfl) (aA rfl)) <|hc (bu a7 (aA rfl) (aE rfl) (by first | omega | (simp <;> omega))) <|hc (bu a7 (aA rfl) (aE rfl) (by first | omega | (simp <;> omega))) <|hc (bu a7 (aA rfl) (aE rfl) (by first | omega | (simp <;> omega))) <|hc (oU (aA rfl) (aA rfl) (neF (by omega))) <|hc (bu a7 (aA rfl) (aE rfl) (by first | omega | (simp <;> omega))) <|hc (ik (i := 0) (aA rfl) (dr (m := 0) rfl) (aE rfl) rfl (by first | omega | (simp <;> omega)) rfl) <|hc (au rfl rfl (by omega)) <|hc (mc (aA rfl) (by first | omega | (simp <;> omega))) <|hc (cH (aA rfl) (aA rfl) (decide_eq_true rfl)) <|hnil
  exact kW (tb := tab3) (ar.bS (ar.bS (ar.bS (ar.bS (ar.bS (ar.lp2 (ar.lp2 (ar.bS (ar.bS (ar.bS (ar.bS ((ae (af (nu3 ln aZ ad ab z nm wd) (rX (ro3 ln aZ ad ab z nm wd) (fun _ => .bool true))) (ah (on3 ln aZ ad ab z nm wd))).hyps ho) (by omega) AQ tS (bH (bR rfl ⟨0, yk, ax.use (l := lf97) (h := lh97) (EE z (by assumption)) (0, (0 : Int)) (rk ⟨by omega, by omega, by omega, by assumption, (fun q hq => And.intro ((by assumption : ∀ q, q ∈ z → q.1.length ≤ 140737488351232) q hq) ((by assumption : ∀ q, q ∈ z → q.2.length ≤ 140737488351232) q hq)), rfl, by omega⟩) rfl (by kernel_rfl) (ao := [(0, I6 0), (2000000, .x 2000000)]) (aj := []) (fun X => bK (show Is _ (I6 0) (.int .i64 ((0 : Int))) from bL (v := .int .i64 0) (bP _ _) (by first | rfl | (congr 1; omega))) (aB (v := aM aK z) rfl rfl (aI))) (by kernel_rfl) (ak := [(2000002, .x 2000000)]) (aB (v := aM aK z) rfl rfl (aI)) (by kernel_rfl)⟩) bE)) (by omega) (aS (by omega) (by omega) pI) pH (bH (bR rfl ⟨0, oL, ax.use (l := lf98) (h := lh98) (yb z nm (by first | assumption | (exact List.length_pos_iff.2 (by assumption)))) (0, (0 : Int), ([] : List LB)) (iT ⟨by omega, by omega, by omega, by assumption, ⟨by omega, by assumption⟩, rfl, fun _ => rfl, fun h => by omega, by omega⟩) rfl (by kernel_rfl) (ao := [(0, .x 1), (1, .x 15), (2, I6 0), (2000000, .x 2000002)]) (aj := []) (fun X => aB (v := St' nm) rfl rfl (aB (v := .int .i64 ((z.length : Int))) rfl rfl (bK (show Is _ (I6 0) (.int .i64 ((0 : Int))) from bL (v := .int .i64 0) (bP _ _) (by first | rfl | (congr 1; omega))) (aB (v := aM aK z) rfl rfl (aI))))) (by kernel_rfl) (ak := [(2000003, .x 2000000), (2000004, .x 2000001)]) (aB (v := aM aK z) rfl rfl (aB (v := aO (av nm z)) rfl rfl (aI))) (by kernel_rfl)⟩) bE)) (by omega) (aS (by omega) (by omega) (aS (by omega) (by omega) pF)) pD (bH (bR rfl ⟨0, oK, ax.use (l := lf99) (h := lh99) (ya z nm (by first | assumption | (exact List.length_pos_iff.2 (by assumption)))) (0, (0 : Int), ([] : List LB)) (iS ⟨by omega, by omega, by omega, by assumption, ⟨by omega, by assumption⟩, rfl, fun _ => rfl, fun h => by omega, by omega⟩) rfl (by kernel_rfl) (ao := [(0, .x 1), (1, I6 0), (2000000, .x 2000003)]) (aj := []) (fun X => aB (v := St' nm) rfl rfl (bK (show Is _ (I6 0) (.int .i64 ((0 : Int))) from bL (v := .int .i64 0) (bP _ _) (by first | rfl | (congr 1; omega))) (aB (v := aM aK z) rfl rfl (aI)))) (by kernel_rfl) (ak := [(2000005, .x 2000000), (2000006, .x 2000001)]) (aB (v := aM aK z) rfl rfl (aB (v := aO (av nm z)) rfl rfl (aI))) (by kernel_rfl)⟩) bE)) (by omega) (aS (by omega) (by omega) (aS (by omega) (by omega) (aS (by omega) (by omega) bF7))) aM4 (bH (bR rfl ⟨0, keySm0, ax.use (l := lf100) (h := lh100) (aL4 (av nm z)) (0, (0 : Int)) (De ⟨by omega, by omega, by omega, by omega⟩) rfl (by kernel_rfl) (ao := [(0, I6 0), (2000000, .x 2000004), (2000001, .x 2000006)]) (aj := []) (fun X => bK (show Is _ (I6 0) (.int .i64 ((0 : Int))) from bL (v := .int .i64 0) (bP _ _) (by first | rfl | (congr 1; omega))) (aB (v := aO (av nm z)) rfl rfl (aB (v := aO (av nm z)) rfl rfl (aI)))) (by kernel_rfl) (ak := [(2000007, .x 2000000), (2000008, .x 2000001)]) (aB (v := aO (av nm z)) rfl rfl (aB (v := aO (av nm z)) rfl rfl (aI))) (by kernel_rfl)⟩) bE)) (by omega) (aS (by omega) (by omega) (aS (by omega) (by omega) (aS (by omega) (by omega) (aS (by omega) (by omega) o9)))) o8 (bH (.inr ⟨⟨rfl, rfl⟩, Ie, pc (l := yg) (l' := lf102) (h := sJ) (h' := lh102) (q := (0, .x 18)) (IZ (l := yg) (h := sJ) (q := (0, .x 18)) z nm wd (by omega) (by omega) (by assumption) (by assumption) (n9 (by assumption)) (by omega) (by omega) rfl rfl (by kernel_rfl) (ao := [(0, .x 1), (1, .x 2), (2000000, .x 2000005)]) (aj := []) (aB (v := St' nm) rfl rfl (aB (v := St' wd) rfl rfl (aB (v := aM aK z) rfl rfl (aI)))) (by kernel_rfl) (ak := [(18, .x 0), (2000005, .x 2000000)]) (aB (v := .bool (bx (av nm z) wd)) rfl rfl (aB (v := aM aK z) rfl rfl (aI))) (by kernel_rfl)) rfl rfl rfl rfl rfl rfl rfl rfl rfl (by kernel_rfl)⟩) bE)) (by omega) (aS (by omega) (by omega) (aS (by omega) (by omega) (aS (by omega) (by omega) (aS (by omega) (by omega) (aS (by omega) (by omega) o7))))) o6 (bH (.inr ⟨⟨rfl, rfl⟩, Ic, pc (l := yf) (l' := lf104) (h := sI) (h' := lh104) (q := (0, .x 19)) (IY (l := yf) (h := sI) (q := (0, .x 19)) z nm wd (by omega) (by omega) (by assumption) (by assumption) (n9 (by assumption)) (by omega) (by omega) rfl rfl (by kernel_rfl) (ao := [(0, .x 1), (1, .x 2), (2000000, .x 2000005)]) (aj := []) (aB (v := St' nm) rfl rfl (aB (v := St' wd) rfl rfl (aB (v := aM aK z) rfl rfl (aI)))) (by kernel_rfl) (ak := [(19, .x 0), (2000005, .x 2000000)]) (aB (v := .bool (bx (av nm z) wd)) rfl rfl (aB (v := aM aK z) rfl rfl (aI))) (by kernel_rfl)) rfl rfl rfl rfl rfl rfl rfl rfl rfl (by kernel_rfl)⟩) bE)) (by omega) (aS (by omega) (by omega) (aS (by omega) (by omega) (aS (by omega) (by omega) (aS (by omega) (by omega) (aS (by omega) (by omega) (aS (by omega) (by omega) Hv)))))) Hu (bH (bR rfl ⟨0, ER, ax.use (l := lf105) (h := lh105) (aB1 z nm (by first | assumption | (exact List.length_pos_iff.2 (by assumption)))) (0, (0 : Int), ([] : List (LB × LB))) (mT ⟨by omega, by omega, by omega, by assumption, ⟨by omega, by assumption⟩, rfl, fun _ => rfl, fun h => by omega, by omega⟩) rfl (by kernel_rfl) (ao := [(0, .x 1), (1, .x 20), (2, I6 0), (2000000, .x 2000005)]) (aj := []) (fun X => aB (v := St' nm) rfl rfl (aB (v := .int .i64 ((z.length : Int))) rfl rfl (bK (show Is _ (I6 0) (.int .i64 ((0 : Int))) from bL (v := .int .i64 0) (bP _ _) (by first | rfl | (congr 1; omega))) (aB (v := aM aK z) rfl rfl (aI))))) (by kernel_rfl) (ak := [(2000009, .x 2000000), (2000010, .x 2000001)]) (aB (v := aM aK z) rfl rfl (aB (v := aM aK (bb nm z)) rfl rfl (aI))) (by kernel_rfl)⟩) bE)) (by omega) (aS (by omega) (by omega) (aS (by omega) (by omega) (aS (by omega) (by omega) (aS (by omega) (by omega) (aS (by omega) (by omega) (aS (by omega) (by omega) (aS (by omega) (by omega) H7))))))) H6 (bH (bR rfl ⟨0, EP, ax.use (l := lf106) (h := lh106) (aB0 z nm (by first | assumption | (exact List.length_pos_iff.2 (by assumption)))) (0, (0 : Int), ([] : List (LB × LB))) (mS ⟨by omega, by omega, by omega, by assumption, ⟨by omega, by assumption⟩, rfl, fun _ => rfl, fun h => by omega, by omega⟩) rfl (by kernel_rfl) (ao := [(0, .x 1), (1, I6 0), (2000000, .x 2000009)]) (aj := []) (fun X => aB (v := St' nm) rfl rfl (bK (show Is _ (I6 0) (.int .i64 ((0 : Int))) from bL (v := .int .i64 0) (bP _ _) (by first | rfl | (congr 1; omega))) (aB (v := aM aK z) rfl rfl (aI)))) (by kernel_rfl) (ak := [(2000011, .x 2000000), (2000012, .x 2000001)]) (aB (v := aM aK z) rfl rfl (aB (v := aM aK (bb nm z)) rfl rfl (aI))) (by kernel_rfl)⟩) bE)) (by omega) (aS (by omega) (by omega) (aS (by omega) (by omega) (aS (by omega) (by omega) (aS (by omega) (by omega) (aS (by omega) (by omega) (aS (by omega) (by omega) (aS (by omega) (by omega) (aS (by omega) (by omega) bF6)))))))) aM3 (bH (bR rfl ⟨0, keySm1, ax.use (l := lf107) (h := lh107) (aL3 (bb nm z)) (0, (0 : Int)) (Dd ⟨by omega, by omega, by omega, aM6 (by assumption), by omega⟩) rfl (by kernel_rfl) (ao := [(0, I6 0), (2000000, .x 2000010), (2000001, .x 2000012)]) (aj := []) (fun X => bK (show Is _ (I6 0) (.int .i64 ((0 : Int))) from bL (v := .int .i64 0) (bP _ _) (by first | rfl | (congr 1; omega))) (aB (v := aM aK (bb nm z)) rfl rfl (aB (v := aM aK (bb nm z)) rfl rfl (aI)))) (by kernel_rfl) (ak := [(2000013, .x 2000000), (2000014, .x 2000001)]) (aB (v := aM aK (bb nm z)) rfl rfl (aB (v := aM aK (bb nm z)) rfl rfl (aI))) (by kernel_rfl)⟩) bE)) (by omega) (aS (by omega) (by omega) (aS (by omega) (by omega) (aS (by omega) (by omega) (aS (by omega) (by omega) (aS (by omega) (by omega) (aS (by omega) (by omega) (aS (by omega) (by omega) (aS (by omega) (by omega) (aS (by omega) (by omega) Hx))))))))) Hw (bH (bR rfl ⟨0, EM, ax.use (l := lf108) (h := lh108) (EF z) (0, (0 : Int), ([] : LB)) (rp ⟨by omega, by omega, by omega, by assumption, by assumption, rfl, by simp, fun _ => rfl, by omega, by omega⟩) rfl (by kernel_rfl) (ao := [(0, .x 23), (1, I6 0), (2000000, .x 2000011)]) (aj := [(1104, 644)]) (fun X => aB (v := .int .i64 ((z.length : Int))) rfl rfl (bK (show Is _ (I6 0) (.int .i64 ((0 : Int))) from bL (v := .int .i64 0) (bP _ _) (by first | rfl | (congr 1; omega))) (aB (v := aM aK z) rfl rfl (aI)))) (by kernel_rfl) (ak := [(24, .x 0), (2000015, .x 2000000)]) (aB (v := St' (cC z)) rfl rfl (aB (v := aM aK z) rfl rfl (aI))) (by kernel_rfl)⟩) bE)) (by omega) (aS (by omega) (by omega) (aS (by omega) (by omega) (aS (by omega) (by omega) (aS (by omega) (by omega) (aS (by omega) (by omega) (aS (by omega) (by omega) (aS (by omega) (by omega) (aS (by omega) (by omega) (aS (by omega) (by omega) (aS (by omega) (by omega) H5)))))))))) H4 (bH (bR rfl ⟨0, EL, ax.use (l := lf109) (h := lh109) (ED z) (0, (0 : Int), ([] : LB)) (yB ⟨by omega, by omega, by omega, by assumption, by assumption, rfl, by simp, by omega⟩) rfl (by kernel_rfl) (ao := [(0, I6 0), (1, .s 0 0), (2000000, .x 2000015)]) (aj := []) (fun X => bK (show Is _ (I6 0) (.int .i64 ((0 : Int))) from bL (v := .int .i64 0) (bP _ _) (by first | rfl | (congr 1; omega))) (bK (show Is _ (.s 0 0) (St' ([] : LB)) from bL (v := St' ([] : LB)) (bQ (l := ([] : LB)) 0 0 rfl) (by first | rfl | (simp; done))) (aB (v := aM aK z) rfl rfl (aI)))) (by kernel_rfl) (ak := [(27, .x 0), (2000016, .x 2000000)]) (aB (v := St' (cC z)) rfl rfl (aB (v := aM aK z) rfl rfl (aI))) (by kernel_rfl)⟩) bE)) rfl (aS (by omega) (by omega) (aS (by omega) (by omega) (aS (by omega) (by omega) (aS (by omega) (by omega) (aS (by omega) (by omega) (aS (by omega) (by omega) (aS (by omega) (by omega) (aS (by omega) (by omega) (aS (by omega) (by omega) (aS (by omega) (by omega) (cP (by omega)))))))))))) AL [.r 2000000 23 2 true] [⟨aZ, ad, z.length, ab⟩] (fun e => run3 e ) (args := [St' ln, .slice (some ⟨aZ, ad, none⟩) z.length ab, St' nm, St' wd]) ⟨_, _, rfl, rfl, ⟨_, _, rfl, kX (by decide) rfl cQ.room, ⟨_, _, rfl, rfl, ⟨_, _, rfl, rfl, rfl⟩⟩⟩⟩ w hl rfl (by decide) (fun e => (lj (cQ.arg (dC e ) rfl) lh)) rfl
def hy4 : LK := [(.bytes [], .x 3),
  (.rn, .x 2000000),
  (.len (.x 0), .x 4),
  (.bin .gtr (.x 4) (I6 1500), .b true)]
theorem run4 (e : Nat) : Go.AX.okB (call (aV hy4) 9000 4 [.x 0, .es, .x 1, .x 2] ⟨H0 e , 4, 0, 0⟩) = true := by kernel_rfl
noncomputable def nu4 (ln : LB) (bW : Option Addr) (bV : Nat) (nm : LB) (wd : LB) : List Value := [St' ln,
  St' nm,
  St' wd,
  St' ([] : LB),
  .int .i64 ((ln.length : Int))]
def ro4 (ln : LB) (bW : Option Addr) (bV : Nat) (nm : LB) (wd : LB) : List Value := [aO ([] : List LB)]
theorem on4 (ln : LB) (bW : Option Addr) (bV : Nat) (nm : LB) (wd : LB) : ∀ j, (ai (nu4 ln bW bV nm wd) j).oneCell' = true := aQ (l := nu4 ln bW bV nm wd) (by unfold nu4; simp only [List.all_cons, List.all_nil, Bool.and_true, Bool.true_and, gF]; rfl)
theorem path4 (ln : LB) (bW : Option Addr) (bV : Nat) (nm : LB) (wd : LB) (b0 : ln.length ≤ 9223372036854775807) (b1 : nm.length ≤ 9223372036854775807) (b2 : wd.length ≤ 9223372036854775807) (h0 : 1500 < (ln.length : Int)) (w : World) (hl : aC w) : bN 4 #[St' ln, .slice bW 0 bV, St' nm, St' wd] w (.bool true) := by
  have hn0 : ([] : LB).length = 0 := rfl
  have ho : ∀ k r, (k, r) ∈ hy4 → aL (cx (af (nu4 ln bW bV nm wd) (rX (ro4 ln bW bV nm wd) (fun _ => .bool true))) (ah (on4 ln bW bV nm wd)) 1 aC aG) k r := by
    unfold hy4
    exact hc (kB0 rfl) <|hc (da (aE rfl)) <|hc (au rfl rfl (by omega)) <|hc (dU rfl (by omega)) <|hnil
  obtain ⟨fi, hfi, hb⟩ := lL
  exact qi (tb := (aV hy4)) ((ae (af (nu4 ln bW bV nm wd) (rX (ro4 ln bW bV nm wd) (fun _ => .bool true))) (ah (on4 ln bW bV nm wd))).hyps ho) rfl hfi hb (fun e => run4 e ) (args := [St' ln, .slice bW 0 bV, St' nm, St' wd]) (by simp only [aF, Rel]; exact ⟨_, _, rfl, rfl, ⟨_, _, rfl, ⟨_, _, rfl⟩, ⟨_, _, rfl, rfl, ⟨_, _, rfl, rfl, rfl⟩⟩⟩⟩) w hl
def hy5 : LK := [(.bytes [], .x 3),
  (.rn, .x 2000001),
  (.len (.x 0), .x 4),
  (.bin .gtr (.x 4) (I6 1500), .b false),
  (.rl (.x 2000000) 2, .x 5),
  (.bin .gtr (.x 5) (I6 20), .b true)]
theorem run5 (e : Nat) : Go.AX.okB (call (aV hy5) 9000 4 [.x 0, .sr 4, .x 1, .x 2] ⟨fM 4 [.r 2000000 23 2 true] (H0 e ), 4 + List.length (α := aR) [.r 2000000 23 2 true], 0, 0⟩) = true := by kernel_rfl
noncomputable def nu5 (ln : LB) (aZ : Nat) (ad : Nat) (ab : Nat) (z : List (LB × LB)) (nm : LB) (wd : LB) : List Value := [St' ln,
  St' nm,
  St' wd,
  St' ([] : LB),
  .int .i64 ((ln.length : Int)),
  .int .i64 ((z.length : Int))]
def ro5 (ln : LB) (aZ : Nat) (ad : Nat) (ab : Nat) (z : List (LB × LB)) (nm : LB) (wd : LB) : List Value := [aM aK z,
  aO ([] : List LB)]
theorem on5 (ln : LB) (aZ : Nat) (ad : Nat) (ab : Nat) (z : List (LB × LB)) (nm : LB) (wd : LB) : ∀ j, (ai (nu5 ln aZ ad ab z nm wd) j).oneCell' = true := aQ (l := nu5 ln aZ ad ab z nm wd) (by unfold nu5; simp only [List.all_cons, List.all_nil, Bool.and_true, Bool.true_and, gF]; rfl)
theorem path5 (ln : LB) (aZ : Nat) (ad : Nat) (ab : Nat) (z : List (LB × LB)) (nm : LB) (wd : LB) (b0 : ln.length ≤ 9223372036854775807) (b1 : 1 ≤ z.length) (b2 : ∀ n, n ∈ z → dH n) (b3 : ∀ q, q ∈ z → q.1.length ≤ 140737488351232) (b4 : ∀ q, q ∈ z → q.2.length ≤ 140737488351232) (b5 : z.length ≤ 9223372036854775807) (b6 : nm.length ≤ 9223372036854775807) (b7 : wd.length ≤ 9223372036854775807) (h0 : ¬ (1500 < (ln.length : Int))) (h1 : 20 < (z.length : Int)) (w : World) (hl : aC w) (cQ : iJ w 2 (z.flatMap aK) aZ ad z.length ab) (dC : ∀ e, (H0 e ).get aZ = none) : bN 4 #[St' ln, .slice (some ⟨aZ, ad, none⟩) z.length ab, St' nm, St' wd] w (.bool true) := by
  have hn0 : ([] : LB).length = 0 := rfl
  have ho : ∀ k r, (k, r) ∈ hy5 → aL (cx (af (nu5 ln aZ ad ab z nm wd) (rX (ro5 ln aZ ad ab z nm wd) (fun _ => .bool true))) (ah (on5 ln aZ ad ab z nm wd)) 1 aC aG) k r := by
    unfold hy5
    exact hc (kB0 rfl) <|hc (da (aE rfl)) <|hc (au rfl rfl (by omega)) <|hc (bq rfl (by omega)) <|hc (bu a7 (aA rfl) (aE rfl) (by first | omega | (simp <;> omega))) <|hc (dU rfl (by omega)) <|hnil
  obtain ⟨fi, hfi, hb⟩ := lL
  exact kW (tb := (aV hy5)) ((ae (af (nu5 ln aZ ad ab z nm wd) (rX (ro5 ln aZ ad ab z nm wd) (fun _ => .bool true))) (ah (on5 ln aZ ad ab z nm wd))).hyps ho) rfl hfi hb [.r 2000000 23 2 true] [⟨aZ, ad, z.length, ab⟩] (fun e => run5 e ) (args := [St' ln, .slice (some ⟨aZ, ad, none⟩) z.length ab, St' nm, St' wd]) ⟨_, _, rfl, rfl, ⟨_, _, rfl, kX (by decide) rfl cQ.room, ⟨_, _, rfl, rfl, ⟨_, _, rfl, rfl, rfl⟩⟩⟩⟩ w hl rfl (by decide) (fun e => (lj (cQ.arg (dC e ) rfl) lh)) rfl
end Go.Proofs.YtjkdkpdjmapieaaDoor.fieldTells
