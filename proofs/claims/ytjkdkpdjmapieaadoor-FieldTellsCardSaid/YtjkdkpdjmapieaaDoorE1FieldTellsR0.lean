/- A part of the proof: what an interpreter answers on partly known states is what the program answers. No condition. -/
import Derived.Test.YtjkdkpdjmapieaaDoorE1FieldTellsO9
set_option maxRecDepth 100000
set_option linter.unusedVariables false
set_option linter.unusedSimpArgs false
set_option maxHeartbeats 4000000
namespace Go.Proofs.YtjkdkpdjmapieaaDoor.fieldTells
open Go Go.AX Go.Proofs Go.Proofs.YtjkdkpdjmapieaaDoor
def hy0 : LK := [(.bytes [], .x 3),
  (.rn, .x 2000000),
  (.len (.x 0), .x 4),
  (.bin .gtr (.x 4) (I6 1500), .b false),
  (.len (.x 1), .x 5),
  (.bin .gtr (.x 5) (I6 100), .b false),
  (.len (.x 2), .x 6),
  (.bin .gtr (.x 6) (I6 100), .b false),
  (.call 8 [.x 0], .tu [.ag [.x 7, .x 8], .x 9]),
  (.call 12 [.x 0], .tu [.ag [.x 10, .x 11], .x 12]),
  (.eq 9 (.x 7) (.x 10), .b true),
  (.eq 9 (.x 8) (.x 11), .b true),
  (.call 13 [.x 9], .x 13),
  (.bin .eql (.x 13) (.x 12), .b true)]
theorem run0 (e : Nat) : Go.AX.okB (call (aV hy0) 9000 4 [.x 0, .es, .x 1, .x 2] ⟨H0 e , 4, 0, 0⟩) = true := by kernel_rfl
noncomputable def nu0 (ln : LB) (bW : Option Addr) (bV : Nat) (nm : LB) (wd : LB) : List Value := [St' ln,
  St' nm,
  St' wd,
  St' ([] : LB),
  .int .i64 ((ln.length : Int)),
  .int .i64 ((nm.length : Int)),
  .int .i64 ((wd.length : Int)),
  St' (pA ln),
  St' (pB ln),
  pE ln,
  St' (pA ln),
  St' (pB ln),
  .int .i64 ((pC ln)),
  .int .i64 ((pC ln))]
def ro0 (ln : LB) (bW : Option Addr) (bV : Nat) (nm : LB) (wd : LB) : List Value := [aO ([] : List LB)]
theorem on0 (ln : LB) (bW : Option Addr) (bV : Nat) (nm : LB) (wd : LB) : ∀ j, (ai (nu0 ln bW bV nm wd) j).oneCell' = true := aQ (l := nu0 ln bW bV nm wd) (by unfold nu0; simp only [List.all_cons, List.all_nil, Bool.and_true, Bool.true_and, gF]; rfl)
theorem path0 (ln : LB) (bW : Option Addr) (bV : Nat) (nm : LB) (wd : LB) (b0 : ln.length ≤ 9223372036854775807) (b1 : nm.length ≤ 9223372036854775807) (b2 : wd.length ≤ 9223372036854775807) (h0 : ¬ (1500 < (ln.length : Int))) (h1 : ¬ (100 < (nm.length : Int))) (h2 : ¬ (100 < (wd.length : Int))) (w : World) (hl : aC w) : bN 4 #[St' ln, .slice bW 0 bV, St' nm, St' wd] w (.bool true) := by
  have hn0 : ([] : LB).length = 0 := rfl
  have ho : ∀ k r, (k, r) ∈ hy0 → aL (cx (af (nu0 ln bW bV nm wd) (rX (ro0 ln bW bV nm wd) (fun _ => .bool true))) (ah (on0 ln bW bV nm wd)) 1 aC aG) k r := by
    unfold hy0
    exact hc (kB0 rfl) <|hc (da (aE rfl)) <|hc (au rfl rfl (by omega)) <|hc (bq rfl (by omega)) <|hc (au rfl rfl (by omega)) <|hc (bq rfl (by omega)) <|hc (au rfl rfl (by omega)) <|hc (bq rfl (by omega)) <|hc (zy (ln := ln) (aA rfl) (lV (lW (aE rfl) (aE rfl)) (aE rfl))) <|hc (zx (ln := ln) (aA rfl) (lV (lW (aE rfl) (aE rfl)) (aE rfl))) <|hc (ij (aA rfl) (aA rfl) iM (decide_eq_true rfl)) <|hc (ij (aA rfl) (aA rfl) iM (decide_eq_true rfl)) <|hc (z7 rfl (aE rfl)) <|hc (lS rfl rfl (by omega)) <|hnil
  obtain ⟨fi, hfi, hb⟩ := lL
  exact qi (tb := (aV hy0)) ((ae (af (nu0 ln bW bV nm wd) (rX (ro0 ln bW bV nm wd) (fun _ => .bool true))) (ah (on0 ln bW bV nm wd))).hyps ho) rfl hfi hb (fun e => run0 e ) (args := [St' ln, .slice bW 0 bV, St' nm, St' wd]) (by simp only [aF, Rel]; exact ⟨_, _, rfl, rfl, ⟨_, _, rfl, ⟨_, _, rfl⟩, ⟨_, _, rfl, rfl, ⟨_, _, rfl, rfl, rfl⟩⟩⟩⟩) w hl
def hy1 : LK := [(.bytes [], .x 3),
  (.rn, .x 2000001),
  (.len (.x 0), .x 4),
  (.bin .gtr (.x 4) (I6 1500), .b false),
  (.rl (.x 2000000) 2, .x 5),
  (.bin .gtr (.x 5) (I6 20), .b false),
  (.len (.x 1), .x 6),
  (.bin .gtr (.x 6) (I6 100), .b false),
  (.len (.x 2), .x 7),
  (.bin .gtr (.x 7) (I6 100), .b false),
  (.call 8 [.x 0], .tu [.ag [.x 8, .x 9], .x 10]),
  (.call 12 [.x 0], .tu [.ag [.x 11, .x 12], .x 13]),
  (.eq 9 (.x 8) (.x 11), .b true),
  (.eq 9 (.x 9) (.x 12), .b true),
  (.call 13 [.x 10], .x 14),
  (.bin .eql (.x 14) (.x 13), .b true),
  (.rl (.x 2000002) 2, .x 15),
  (.rl (.x 2000004) 1, .x 16),
  (.rl (.x 2000006) 1, .x 17),
  (.bin .neq (.x 16) (.x 17), .b false),
  (.fK (.x 18) (.x 19), .b true),
  (.rl (.x 2000005) 2, .x 20),
  (.rl (.x 2000010) 2, .x 21),
  (.di (.x 22) (I6 0), .x 23),
  (.len (.x 22), .x 24),
  (.fit (.x 22), .b true),
  (.bin .eql (.x 22) (.x 25), .b true)]
def lh23 : LH := ⟨4, 24, 54, [(4, .r 2000000 23 2 true)], [(4, .r 2000002 23 2 true)]⟩
def lf23 : LF := ⟨6, 140, [(1, .sr 4), (9, I6 0)], [0, 2, 3], (.exit 0), [(1, .sr 4)], some lh23⟩
def lh24 : LH := ⟨4, 104, 144, [(4, .r 2000002 23 2 true)], [(4, .r 2000003 23 2 true), (104, .r 2000004 9 1 false)]⟩
def lf24 : LF := ⟨3, 25, [(1, .x 1), (5, .aq), (8, .sr 4), (10, I6 0), (9, .x 15)], [], (.exit 0), [(5, .sr 104)], some lh24⟩
def lh25 : LH := ⟨4, 204, 244, [(4, .r 2000003 23 2 true)], [(4, .r 2000005 23 2 true), (204, .r 2000006 9 1 false)]⟩
def lf25 : LF := ⟨3, 31, [(1, .x 1), (5, .aq), (0, .sr 4), (6, I6 0)], [], (.exit 0), [(5, .sr 204)], some lh25⟩
def lh26 : LH := ⟨4, 244, 244, [(104, .r 2000004 9 1 false), (204, .r 2000006 9 1 false)], [(104, .r 2000007 9 1 false), (204, .r 2000008 9 1 false)]⟩
def lf26 : LF := ⟨4, 26, [(0, .sr 104), (1, .sr 204), (5, I6 0)], [], (.exit 0), [], some lh26⟩
def sF : LH := ⟨4, 84, 704, [(4, .r 2000005 23 2 true)], [(4, .r 2000005 23 2 true)]⟩
def lf40 : LF := ⟨8888888, 0, [(0, .sr 4), (1, .x 1), (2, .x 2)], [], .normal, [(0, .x 18)], some sF⟩
def lh41 : LH := ⟨4, 244, 244, sF.pre, sF.pre⟩
def lf41 : LF := ⟨8888888, 0, lf40.pre, [], .normal, lf40.post, some lh41⟩
def sE : LH := ⟨4, 184, 1004, [(4, .r 2000005 23 2 true)], [(4, .r 2000005 23 2 true)]⟩
def lf55 : LF := ⟨8888888, 0, [(0, .sr 4), (1, .x 1), (2, .x 2)], [], .normal, [(0, .x 19)], some sE⟩
def lh56 : LH := ⟨4, 244, 244, sE.pre, sE.pre⟩
def lf56 : LF := ⟨8888888, 0, lf55.pre, [], .normal, lf55.post, some lh56⟩
def lh57 : LH := ⟨4, 304, 344, [(4, .r 2000005 23 2 true)], [(4, .r 2000009 23 2 true)]⟩
def lf57 : LF := ⟨3, 25, [(1, .x 1), (5, .aq), (8, .sr 4), (10, I6 0), (9, .x 20)], [], (.exit 0), [(5, .aq)], some lh57⟩
def lh58 : LH := ⟨4, 604, 644, [(4, .r 2000009 23 2 true)], [(4, .r 2000010 23 2 true)]⟩
def lf58 : LF := ⟨3, 30, [(1, .x 1), (5, .aq), (0, .sr 4), (6, I6 0)], [], (.exit 0), [(5, .aq)], some lh58⟩
def lh59 : LH := ⟨4, 1104, 1144, [(4, .r 2000010 23 2 true), (644, bk 51 [.bX, .aq])], [(4, .r 2000011 23 2 true), (1104, bk 51 [.p 1104 0, .sy 1105]), (1105, .t 22 5)]⟩
def lf59 : LF := ⟨3, 22, [(3, .p 644 0), (6, .sr 4), (7, .x 21), (8, I6 0)], [], (.exit 0), [(3, .p 1104 0)], some lh59⟩
def lh60 : LH := ⟨4, 1204, 1244, [(4, .r 2000011 23 2 true)], [(4, .r 2000012 23 2 true)]⟩
def lf60 : LF := ⟨3, 27, [(0, .sr 4), (3, .s 0 0), (4, I6 0)], [], (.exit 0), [(3, .x 25)], some lh60⟩
noncomputable def tab1 : Tab := bI (bI (bI (bI (bI (bI (bI (bI (bI (bI ({ bB with hyp := hy1 }) 4 fi4 [lf23]) 10 lR [lf24]) 15 lQ [lf25]) 14 Ab [lf26]) 16 lP [lf41]) 17 lO [lf56]) 9 fi9 [lf57]) 19 tX [lf58]) 7 fi7 [lf59]) 20 tW [lf60]
theorem run1 (e : Nat) : Go.AX.okB (call tab1 9000 4 [.x 0, .sr 4, .x 1, .x 2] ⟨fM 4 [.r 2000000 23 2 true] (H0 e ), 4 + List.length (α := aR) [.r 2000000 23 2 true], 0, 0⟩) = true := by kernel_rfl
noncomputable def nu1 (ln : LB) (aZ : Nat) (ad : Nat) (ab : Nat) (z : List (LB × LB)) (nm : LB) (wd : LB) : List Value := [St' ln,
  St' nm,
  St' wd,
  St' ([] : LB),
  .int .i64 ((ln.length : Int)),
  .int .i64 ((z.length : Int)),
  .int .i64 ((nm.length : Int)),
  .int .i64 ((wd.length : Int)),
  St' (pA ln),
  St' (pB ln),
  pE ln,
  St' (pA ln),
  St' (pB ln),
  .int .i64 ((pC ln)),
  .int .i64 ((pC ln)),
  .int .i64 ((z.length : Int)),
  .int .i64 (((av nm z).length : Int)),
  .int .i64 (((av nm z).length : Int)),
  .bool (bx (av nm z) wd),
  .bool (bx (av nm z) wd),
  .int .i64 ((z.length : Int)),
  .int .i64 ((z.length : Int)),
  St' (cC z),
  .int .u8 (bt (cC z) 0),
  .int .i64 (((cC z).length : Int)),
  St' (cC z)]
def ro1 (ln : LB) (aZ : Nat) (ad : Nat) (ab : Nat) (z : List (LB × LB)) (nm : LB) (wd : LB) : List Value := [aM aK z,
  aO ([] : List LB),
  aM aK z,
  aM aK z,
  aO (av nm z),
  aM aK z,
  aO (av nm z),
  aO (av nm z),
  aO (av nm z),
  aM aK z,
  aM aK z,
  aM aK z,
  aM aK z]
theorem on1 (ln : LB) (aZ : Nat) (ad : Nat) (ab : Nat) (z : List (LB × LB)) (nm : LB) (wd : LB) : ∀ j, (ai (nu1 ln aZ ad ab z nm wd) j).oneCell' = true := aQ (l := nu1 ln aZ ad ab z nm wd) (by unfold nu1; simp only [List.all_cons, List.all_nil, Bool.and_true, Bool.true_and, gF]; rfl)
theorem path1 (ln : LB) (aZ : Nat) (ad : Nat) (ab : Nat) (z : List (LB × LB)) (nm : LB) (wd : LB) (b0 : ln.length ≤ 9223372036854775807) (b1 : 1 ≤ z.length) (b2 : ∀ n, n ∈ z → dH n) (b3 : ∀ q, q ∈ z → q.1.length ≤ 140737488351232) (b4 : ∀ q, q ∈ z → q.2.length ≤ 140737488351232) (b5 : z.length ≤ 9223372036854775807) (b6 : nm.length ≤ 9223372036854775807) (b7 : wd.length ≤ 9223372036854775807) (h0 : ¬ (1500 < (ln.length : Int))) (h1 : ¬ (20 < (z.length : Int))) (h2 : ¬ (100 < (nm.length : Int))) (h3 : ¬ (100 < (wd.length : Int))) (h4 : dS z = true) (h6 : ¬ (av nm z = [])) (h8 : bb nm z = []) (w : World) (hl : aC w) (cQ : iJ w 2 (z.flatMap aK) aZ ad z.length ab) (dC : ∀ e, (H0 e ).get aZ = none) : bN 4 #[St' ln, .slice (some ⟨aZ, ad, none⟩) z.length ab, St' nm, St' wd] w (.bool true) := by
  have hn0 : ([] : LB).length = 0 := rfl
  have := eL nm z
  have := iF nm z
  have hlnl := yR z (by assumption)
  have := bF (cC z) 0; have := bG (cC z) 0
  have ho : ∀ k r, (k, r) ∈ hy1 → aL (cx (af (nu1 ln aZ ad ab z nm wd) (rX (ro1 ln aZ ad ab z nm wd) (fun _ => .bool true))) (ah (on1 ln aZ ad ab z nm wd)) 1 aC aG) k r := by
    unfold hy1
    exact hc (kB0 rfl) <|hc (da (aE rfl)) <|hc (au rfl rfl (by omega)) <|hc (bq rfl (by omega)) <|hc (bu a7 (aA rfl) (aE rfl) (by first | omega | (simp <;> omega))) <|hc (bq rfl (by omega)) <|hc (au rfl rfl (by omega)) <|hc (bq rfl (by omega)) <|hc (au rfl rfl (by omega)) <|hc (bq rfl (by omega)) <|hc (zy (ln := ln) (aA rfl) (lV (lW (aE rfl) (aE rfl)) (aE rfl))) <|hc (zx (ln := ln) (aA rfl) (lV (lW (aE rfl) (aE rfl)) (aE rfl))) <|hc (ij (aA rfl) (aA rfl) iM (decide_eq_true rfl)) <|hc (ij (aA rfl) (aA rfl) iM (decide_eq_true rfl)) <|hc (z7 rfl (aE rfl)) <|hc (lS rfl rfl (by omega)) <|hc (bu a7 (aA rfl) (aE rfl) (by first | omega | (simp <;> omega))) <|hc (eK (aA rfl) (aE rfl) (by first | omega | (simp <;> omega))) <|hc (eK (aA rfl) (aE rfl) (by first | omega | (simp <;> omega))) <|hc (oU (aA rfl) (aA rfl) (neF (by omega))) <|hc (yr (aA rfl) (aA rfl)) <|hc (bu a7 (aA rfl) (aE rfl) (by first | omega | (simp <;> omega))) <|hc (bu a7 (aA rfl) (aE rfl) (by first | omega | (simp <;> omega))) <|hc (ik (i := 0) (aA rfl) (dr (m := 0) rfl) (aE rfl) rfl (by first | omega | (simp <;> omega)) rfl) <|hc (au rfl rfl (by omega)) <|hc (mc (aA rfl) (by first | omega | (simp <;> omega))) <|hc (cH (aA rfl) (aA rfl) (decide_eq_true rfl)) <|hnil
  exact kW (tb := tab1) (ar.bS (ar.bS (ar.bS (ar.bS (ar.lp2 (ar.lp2 (ar.bS (ar.bS (ar.bS (ar.bS ((ae (af (nu1 ln aZ ad ab z nm wd) (rX (ro1 ln aZ ad ab z nm wd) (fun _ => .bool true))) (ah (on1 ln aZ ad ab z nm wd))).hyps ho) (by omega) AQ tS (bH (bR rfl ⟨0, yk, ax.use (l := lf23) (h := lh23) (EE z (by assumption)) (0, (0 : Int)) (rk ⟨by omega, by omega, by omega, by assumption, (fun q hq => And.intro ((by assumption : ∀ q, q ∈ z → q.1.length ≤ 140737488351232) q hq) ((by assumption : ∀ q, q ∈ z → q.2.length ≤ 140737488351232) q hq)), rfl, by omega⟩) rfl (by kernel_rfl) (ao := [(0, I6 0), (2000000, .x 2000000)]) (aj := []) (fun X => bK (show Is _ (I6 0) (.int .i64 ((0 : Int))) from bL (v := .int .i64 0) (bP _ _) (by first | rfl | (congr 1; omega))) (aB (v := aM aK z) rfl rfl (aI))) (by kernel_rfl) (ak := [(2000002, .x 2000000)]) (aB (v := aM aK z) rfl rfl (aI)) (by kernel_rfl)⟩) bE)) (by omega) (aS (by omega) (by omega) pI) pH (bH (bR rfl ⟨0, oL, ax.use (l := lf24) (h := lh24) (yb z nm (by first | assumption | (exact List.length_pos_iff.2 (by assumption)))) (0, (0 : Int), ([] : List LB)) (iT ⟨by omega, by omega, by omega, by assumption, ⟨by omega, by assumption⟩, rfl, fun _ => rfl, fun h => by omega, by omega⟩) rfl (by kernel_rfl) (ao := [(0, .x 1), (1, .x 15), (2, I6 0), (2000000, .x 2000002)]) (aj := []) (fun X => aB (v := St' nm) rfl rfl (aB (v := .int .i64 ((z.length : Int))) rfl rfl (bK (show Is _ (I6 0) (.int .i64 ((0 : Int))) from bL (v := .int .i64 0) (bP _ _) (by first | rfl | (congr 1; omega))) (aB (v := aM aK z) rfl rfl (aI))))) (by kernel_rfl) (ak := [(2000003, .x 2000000), (2000004, .x 2000001)]) (aB (v := aM aK z) rfl rfl (aB (v := aO (av nm z)) rfl rfl (aI))) (by kernel_rfl)⟩) bE)) (by omega) (aS (by omega) (by omega) (aS (by omega) (by omega) pF)) pD (bH (bR rfl ⟨0, oK, ax.use (l := lf25) (h := lh25) (ya z nm (by first | assumption | (exact List.length_pos_iff.2 (by assumption)))) (0, (0 : Int), ([] : List LB)) (iS ⟨by omega, by omega, by omega, by assumption, ⟨by omega, by assumption⟩, rfl, fun _ => rfl, fun h => by omega, by omega⟩) rfl (by kernel_rfl) (ao := [(0, .x 1), (1, I6 0), (2000000, .x 2000003)]) (aj := []) (fun X => aB (v := St' nm) rfl rfl (bK (show Is _ (I6 0) (.int .i64 ((0 : Int))) from bL (v := .int .i64 0) (bP _ _) (by first | rfl | (congr 1; omega))) (aB (v := aM aK z) rfl rfl (aI)))) (by kernel_rfl) (ak := [(2000005, .x 2000000), (2000006, .x 2000001)]) (aB (v := aM aK z) rfl rfl (aB (v := aO (av nm z)) rfl rfl (aI))) (by kernel_rfl)⟩) bE)) (by omega) (aS (by omega) (by omega) (aS (by omega) (by omega) (aS (by omega) (by omega) bF7))) aM4 (bH (bR rfl ⟨0, keySm0, ax.use (l := lf26) (h := lh26) (aL4 (av nm z)) (0, (0 : Int)) (De ⟨by omega, by omega, by omega, by omega⟩) rfl (by kernel_rfl) (ao := [(0, I6 0), (2000000, .x 2000004), (2000001, .x 2000006)]) (aj := []) (fun X => bK (show Is _ (I6 0) (.int .i64 ((0 : Int))) from bL (v := .int .i64 0) (bP _ _) (by first | rfl | (congr 1; omega))) (aB (v := aO (av nm z)) rfl rfl (aB (v := aO (av nm z)) rfl rfl (aI)))) (by kernel_rfl) (ak := [(2000007, .x 2000000), (2000008, .x 2000001)]) (aB (v := aO (av nm z)) rfl rfl (aB (v := aO (av nm z)) rfl rfl (aI))) (by kernel_rfl)⟩) bE)) (by omega) (aS (by omega) (by omega) (aS (by omega) (by omega) (aS (by omega) (by omega) (aS (by omega) (by omega) o9)))) o8 (bH (.inr ⟨⟨rfl, rfl⟩, Ie, pc (l := lf40) (l' := lf41) (h := sF) (h' := lh41) (q := (0, .x 18)) (IZ (l := lf40) (h := sF) (q := (0, .x 18)) z nm wd (by omega) (by omega) (by assumption) (by assumption) (n9 (by assumption)) (by omega) (by omega) rfl rfl (by kernel_rfl) (ao := [(0, .x 1), (1, .x 2), (2000000, .x 2000005)]) (aj := []) (aB (v := St' nm) rfl rfl (aB (v := St' wd) rfl rfl (aB (v := aM aK z) rfl rfl (aI)))) (by kernel_rfl) (ak := [(18, .x 0), (2000005, .x 2000000)]) (aB (v := .bool (bx (av nm z) wd)) rfl rfl (aB (v := aM aK z) rfl rfl (aI))) (by kernel_rfl)) rfl rfl rfl rfl rfl rfl rfl rfl rfl (by kernel_rfl)⟩) bE)) (by omega) (aS (by omega) (by omega) (aS (by omega) (by omega) (aS (by omega) (by omega) (aS (by omega) (by omega) (aS (by omega) (by omega) o7))))) o6 (bH (.inr ⟨⟨rfl, rfl⟩, Ic, pc (l := lf55) (l' := lf56) (h := sE) (h' := lh56) (q := (0, .x 19)) (IY (l := lf55) (h := sE) (q := (0, .x 19)) z nm wd (by omega) (by omega) (by assumption) (by assumption) (n9 (by assumption)) (by omega) (by omega) rfl rfl (by kernel_rfl) (ao := [(0, .x 1), (1, .x 2), (2000000, .x 2000005)]) (aj := []) (aB (v := St' nm) rfl rfl (aB (v := St' wd) rfl rfl (aB (v := aM aK z) rfl rfl (aI)))) (by kernel_rfl) (ak := [(19, .x 0), (2000005, .x 2000000)]) (aB (v := .bool (bx (av nm z) wd)) rfl rfl (aB (v := aM aK z) rfl rfl (aI))) (by kernel_rfl)) rfl rfl rfl rfl rfl rfl rfl rfl rfl (by kernel_rfl)⟩) bE)) (by omega) (aS (by omega) (by omega) (aS (by omega) (by omega) (aS (by omega) (by omega) (aS (by omega) (by omega) (aS (by omega) (by omega) (aS (by omega) (by omega) Hv)))))) Hu (bH (bR rfl ⟨0, ER, ax.use (l := lf57) (h := lh57) (lfOkDr0304_0 z nm (by first | assumption | (exact List.length_pos_iff.2 (by assumption)))) (0, (0 : Int), ([] : List (LB × LB))) (mT ⟨by omega, by omega, by omega, by assumption, ⟨by omega, by assumption⟩, rfl, fun _ => rfl, fun h => by omega, by omega⟩) rfl (by kernel_rfl) (ao := [(0, .x 1), (1, .x 20), (2, I6 0), (2000000, .x 2000005)]) (aj := []) (fun X => aB (v := St' nm) rfl rfl (aB (v := .int .i64 ((z.length : Int))) rfl rfl (bK (show Is _ (I6 0) (.int .i64 ((0 : Int))) from bL (v := .int .i64 0) (bP _ _) (by first | rfl | (congr 1; omega))) (aB (v := aM aK z) rfl rfl (aI))))) (by kernel_rfl) (ak := [(2000009, .x 2000000)]) (aB (v := aM aK z) rfl rfl (aI)) (by kernel_rfl)⟩) bE)) (by omega) (aS (by omega) (by omega) (aS (by omega) (by omega) (aS (by omega) (by omega) (aS (by omega) (by omega) (aS (by omega) (by omega) (aS (by omega) (by omega) (aS (by omega) (by omega) H7))))))) H6 (bH (bR rfl ⟨0, EP, ax.use (l := lf58) (h := lh58) (lfOkDr1604_0 z nm (by first | assumption | (exact List.length_pos_iff.2 (by assumption)))) (0, (0 : Int), ([] : List (LB × LB))) (mS ⟨by omega, by omega, by omega, by assumption, ⟨by omega, by assumption⟩, rfl, fun _ => rfl, fun h => by omega, by omega⟩) rfl (by kernel_rfl) (ao := [(0, .x 1), (1, I6 0), (2000000, .x 2000009)]) (aj := []) (fun X => aB (v := St' nm) rfl rfl (bK (show Is _ (I6 0) (.int .i64 ((0 : Int))) from bL (v := .int .i64 0) (bP _ _) (by first | rfl | (congr 1; omega))) (aB (v := aM aK z) rfl rfl (aI)))) (by kernel_rfl) (ak := [(2000010, .x 2000000)]) (aB (v := aM aK z) rfl rfl (aI)) (by kernel_rfl)⟩) bE)) (by omega) (aS (by omega) (by omega) (aS (by omega) (by omega) (aS (by omega) (by omega) (aS (by omega) (by omega) (aS (by omega) (by omega) (aS (by omega) (by omega) (aS (by omega) (by omega) (aS (by omega) (by omega) Hx)))))))) Hw (bH (bR rfl ⟨0, EM, ax.use (l := lf59) (h := lh59) (EF z) (0, (0 : Int), ([] : LB)) (rp ⟨by omega, by omega, by omega, by assumption, by assumption, rfl, by simp, fun _ => rfl, by omega, by omega⟩) rfl (by kernel_rfl) (ao := [(0, .x 21), (1, I6 0), (2000000, .x 2000010)]) (aj := [(1104, 644)]) (fun X => aB (v := .int .i64 ((z.length : Int))) rfl rfl (bK (show Is _ (I6 0) (.int .i64 ((0 : Int))) from bL (v := .int .i64 0) (bP _ _) (by first | rfl | (congr 1; omega))) (aB (v := aM aK z) rfl rfl (aI)))) (by kernel_rfl) (ak := [(22, .x 0), (2000011, .x 2000000)]) (aB (v := St' (cC z)) rfl rfl (aB (v := aM aK z) rfl rfl (aI))) (by kernel_rfl)⟩) bE)) (by omega) (aS (by omega) (by omega) (aS (by omega) (by omega) (aS (by omega) (by omega) (aS (by omega) (by omega) (aS (by omega) (by omega) (aS (by omega) (by omega) (aS (by omega) (by omega) (aS (by omega) (by omega) (aS (by omega) (by omega) H5))))))))) H4 (bH (bR rfl ⟨0, EL, ax.use (l := lf60) (h := lh60) (ED z) (0, (0 : Int), ([] : LB)) (yB ⟨by omega, by omega, by omega, by assumption, by assumption, rfl, by simp, by omega⟩) rfl (by kernel_rfl) (ao := [(0, I6 0), (1, .s 0 0), (2000000, .x 2000011)]) (aj := []) (fun X => bK (show Is _ (I6 0) (.int .i64 ((0 : Int))) from bL (v := .int .i64 0) (bP _ _) (by first | rfl | (congr 1; omega))) (bK (show Is _ (.s 0 0) (St' ([] : LB)) from bL (v := St' ([] : LB)) (bQ (l := ([] : LB)) 0 0 rfl) (by first | rfl | (simp; done))) (aB (v := aM aK z) rfl rfl (aI)))) (by kernel_rfl) (ak := [(25, .x 0), (2000012, .x 2000000)]) (aB (v := St' (cC z)) rfl rfl (aB (v := aM aK z) rfl rfl (aI))) (by kernel_rfl)⟩) bE)) rfl (aS (by omega) (by omega) (aS (by omega) (by omega) (aS (by omega) (by omega) (aS (by omega) (by omega) (aS (by omega) (by omega) (aS (by omega) (by omega) (aS (by omega) (by omega) (aS (by omega) (by omega) (aS (by omega) (by omega) (cP (by omega))))))))))) AL [.r 2000000 23 2 true] [⟨aZ, ad, z.length, ab⟩] (fun e => run1 e ) (args := [St' ln, .slice (some ⟨aZ, ad, none⟩) z.length ab, St' nm, St' wd]) ⟨_, _, rfl, rfl, ⟨_, _, rfl, kX (by decide) rfl cQ.room, ⟨_, _, rfl, rfl, ⟨_, _, rfl, rfl, rfl⟩⟩⟩⟩ w hl rfl (by decide) (fun e => (lj (cQ.arg (dC e ) rfl) lh)) rfl
def hy2 : LK := [(.bytes [], .x 3),
  (.rn, .x 2000001),
  (.len (.x 0), .x 4),
  (.bin .gtr (.x 4) (I6 1500), .b false),
  (.rl (.x 2000000) 2, .x 5),
  (.bin .gtr (.x 5) (I6 20), .b false),
  (.len (.x 1), .x 6),
  (.bin .gtr (.x 6) (I6 100), .b false),
  (.len (.x 2), .x 7),
  (.bin .gtr (.x 7) (I6 100), .b false),
  (.call 8 [.x 0], .tu [.ag [.x 8, .x 9], .x 10]),
  (.call 12 [.x 0], .tu [.ag [.x 11, .x 12], .x 13]),
  (.eq 9 (.x 8) (.x 11), .b true),
  (.eq 9 (.x 9) (.x 12), .b true),
  (.call 13 [.x 10], .x 14),
  (.bin .eql (.x 14) (.x 13), .b true),
  (.rl (.x 2000002) 2, .x 15),
  (.fK (.x 16) (.x 17), .b true),
  (.rl (.x 2000004) 2, .x 18),
  (.rl (.x 2000006) 2, .x 19),
  (.rl (.x 2000008) 2, .x 20),
  (.bin .neq (.x 19) (.x 20), .b false),
  (.rl (.x 2000007) 2, .x 21),
  (.di (.x 22) (I6 0), .x 23),
  (.len (.x 22), .x 24),
  (.fit (.x 22), .b true),
  (.bin .eql (.x 22) (.x 25), .b true)]
def lh74 : LH := ⟨4, 104, 144, [(4, .r 2000002 23 2 true)], [(4, .r 2000003 23 2 true)]⟩
def lf74 : LF := ⟨3, 25, [(1, .x 1), (5, .aq), (8, .sr 4), (10, I6 0), (9, .x 15)], [], (.exit 0), [(5, .aq)], some lh74⟩
def lh75 : LH := ⟨4, 204, 244, [(4, .r 2000003 23 2 true)], [(4, .r 2000004 23 2 true)]⟩
def lf75 : LF := ⟨3, 31, [(1, .x 1), (5, .aq), (0, .sr 4), (6, I6 0)], [], (.exit 0), [(5, .aq)], some lh75⟩
def sD : LH := ⟨4, 84, 704, [(4, .r 2000004 23 2 true)], [(4, .r 2000004 23 2 true)]⟩
def lf76 : LF := ⟨8888888, 0, [(0, .sr 4), (1, .x 1), (2, .x 2)], [], .normal, [(0, .x 16)], some sD⟩
def lh77 : LH := ⟨4, 244, 244, sD.pre, sD.pre⟩
def lf77 : LF := ⟨8888888, 0, lf76.pre, [], .normal, lf76.post, some lh77⟩
def sC : LH := ⟨4, 184, 1004, [(4, .r 2000004 23 2 true)], [(4, .r 2000004 23 2 true)]⟩
def lf78 : LF := ⟨8888888, 0, [(0, .sr 4), (1, .x 1), (2, .x 2)], [], .normal, [(0, .x 17)], some sC⟩
def lh79 : LH := ⟨4, 244, 244, sC.pre, sC.pre⟩
def lf79 : LF := ⟨8888888, 0, lf78.pre, [], .normal, lf78.post, some lh79⟩
def lh80 : LH := ⟨4, 304, 344, [(4, .r 2000004 23 2 true)], [(4, .r 2000005 23 2 true), (304, .r 2000006 23 2 false)]⟩
def lf80 : LF := ⟨3, 25, [(1, .x 1), (5, .aq), (8, .sr 4), (10, I6 0), (9, .x 18)], [], (.exit 0), [(5, .sr 304)], some lh80⟩
def lh81 : LH := ⟨4, 604, 644, [(4, .r 2000005 23 2 true)], [(4, .r 2000007 23 2 true), (604, .r 2000008 23 2 false)]⟩
def lf81 : LF := ⟨3, 30, [(1, .x 1), (5, .aq), (0, .sr 4), (6, I6 0)], [], (.exit 0), [(5, .sr 604)], some lh81⟩
def lh82 : LH := ⟨4, 644, 644, [(304, .r 2000006 23 2 false), (604, .r 2000008 23 2 false)], [(304, .r 2000009 23 2 false), (604, .r 2000010 23 2 false)]⟩
def lf82 : LF := ⟨4, 26, [(0, .sr 304), (1, .sr 604), (5, I6 0)], [], (.exit 0), [], some lh82⟩
def lh83 : LH := ⟨4, 1104, 1144, [(4, .r 2000007 23 2 true), (644, bk 51 [.bX, .aq])], [(4, .r 2000011 23 2 true), (1104, bk 51 [.p 1104 0, .sy 1105]), (1105, .t 22 5)]⟩
def lf83 : LF := ⟨3, 22, [(3, .p 644 0), (6, .sr 4), (7, .x 21), (8, I6 0)], [], (.exit 0), [(3, .p 1104 0)], some lh83⟩
noncomputable def tab2 : Tab := bI (bI (bI (bI (bI (bI (bI (bI (bI (bI ({ bB with hyp := hy2 }) 4 fi4 [lf23]) 10 lR [lf74]) 15 lQ [lf75]) 16 lP [lf77]) 17 lO [lf79]) 9 fi9 [lf80]) 19 tX [lf81]) 18 Aa [lf82]) 7 fi7 [lf83]) 20 tW [lf60]
theorem run2 (e : Nat) : Go.AX.okB (call tab2 9000 4 [.x 0, .sr 4, .x 1, .x 2] ⟨fM 4 [.r 2000000 23 2 true] (H0 e ), 4 + List.length (α := aR) [.r 2000000 23 2 true], 0, 0⟩) = true := by kernel_rfl
noncomputable def nu2 (ln : LB) (aZ : Nat) (ad : Nat) (ab : Nat) (z : List (LB × LB)) (nm : LB) (wd : LB) : List Value := [St' ln,
  St' nm,
  St' wd,
  St' ([] : LB),
  .int .i64 ((ln.length : Int)),
  .int .i64 ((z.length : Int)),
  .int .i64 ((nm.length : Int)),
  .int .i64 ((wd.length : Int)),
  St' (pA ln),
  St' (pB ln),
  pE ln,
  St' (pA ln),
  St' (pB ln),
  .int .i64 ((pC ln)),
  .int .i64 ((pC ln)),
  .int .i64 ((z.length : Int)),
  .bool (bx (av nm z) wd),
  .bool (bx (av nm z) wd),
  .int .i64 ((z.length : Int)),
  .int .i64 (((bb nm z).length : Int)),
  .int .i64 (((bb nm z).length : Int)),
  .int .i64 ((z.length : Int)),
  St' (cC z),
  .int .u8 (bt (cC z) 0),
  .int .i64 (((cC z).length : Int)),
  St' (cC z)]
def ro2 (ln : LB) (aZ : Nat) (ad : Nat) (ab : Nat) (z : List (LB × LB)) (nm : LB) (wd : LB) : List Value := [aM aK z,
  aO ([] : List LB),
  aM aK z,
  aM aK z,
  aM aK z,
  aM aK z,
  aM aK (bb nm z),
  aM aK z,
  aM aK (bb nm z),
  aM aK (bb nm z),
  aM aK (bb nm z),
  aM aK z,
  aM aK z]
theorem on2 (ln : LB) (aZ : Nat) (ad : Nat) (ab : Nat) (z : List (LB × LB)) (nm : LB) (wd : LB) : ∀ j, (ai (nu2 ln aZ ad ab z nm wd) j).oneCell' = true := aQ (l := nu2 ln aZ ad ab z nm wd) (by unfold nu2; simp only [List.all_cons, List.all_nil, Bool.and_true, Bool.true_and, gF]; rfl)
theorem path2 (ln : LB) (aZ : Nat) (ad : Nat) (ab : Nat) (z : List (LB × LB)) (nm : LB) (wd : LB) (b0 : ln.length ≤ 9223372036854775807) (b1 : 1 ≤ z.length) (b2 : ∀ n, n ∈ z → dH n) (b3 : ∀ q, q ∈ z → q.1.length ≤ 140737488351232) (b4 : ∀ q, q ∈ z → q.2.length ≤ 140737488351232) (b5 : z.length ≤ 9223372036854775807) (b6 : nm.length ≤ 9223372036854775807) (b7 : wd.length ≤ 9223372036854775807) (h0 : ¬ (1500 < (ln.length : Int))) (h1 : ¬ (20 < (z.length : Int))) (h2 : ¬ (100 < (nm.length : Int))) (h3 : ¬ (100 < (wd.length : Int))) (h4 : dS z = true) (h6 : av nm z = []) (w : World) (hl : aC w) (cQ : iJ w 2 (z.flatMap aK) aZ ad z.length ab) (dC : ∀ e, (H0 e ).get aZ = none) : bN 4 #[St' ln, .slice (some ⟨aZ, ad, none⟩) z.length ab, St' nm, St' wd] w (.bool true) := by
  have hn0 : ([] : LB).length = 0 := rfl
  have hh0 : ¬ bx (av nm z) wd = true := by rw [He (by assumption)]; decide
  have hd0 : ¬ bb nm z = [] := drop_ne (by assumption) (by omega)
  have := eL nm z
  have := iF nm z
  have hlnl := yR z (by assumption)
  have := bF (cC z) 0; have := bG (cC z) 0
  have ho : ∀ k r, (k, r) ∈ hy2 → aL (cx (af (nu2 ln aZ ad ab z nm wd) (rX (ro2 ln aZ ad ab z nm wd) (fun _ => .bool true))) (ah (on2 ln aZ ad ab z nm wd)) 1 aC aG) k r := by
    unfold hy2
    exact hc (kB0 rfl) <|hc (da (aE rfl)) <|hc (au rfl rfl (by omega)) <|hc (bq rfl (by omega)) <|hc (bu a7 (aA rfl) (aE rfl) (by first | omega | (simp <;> omega))) <|hc (bq rfl (by omega)) <|hc (au rfl rfl (by omega)) <|hc (bq rfl (by omega)) <|hc (au rfl rfl (by omega)) <|hc (bq rfl (by omega)) <|hc (zy (ln := ln) (aA rfl) (lV (lW (aE rfl) (aE rfl)) (aE rfl))) <|hc (zx (ln := ln) (aA rfl) (lV (lW (aE rfl) (aE rfl)) (aE rfl))) <|hc (ij (aA rfl) (aA rfl) iM (decide_eq_true rfl)) <|hc (ij (aA rfl) (aA rfl) iM (decide_eq_true rfl)) <|hc (z7 rfl (aE rfl)) <|hc (lS rfl rfl (by omega)) <|hc (bu a7 (aA rfl) (aE rfl) (by first | omega | (simp <;> omega))) <|hc (yr (aA rfl) (aA rfl)) <|hc (bu a7 (aA rfl) (aE rfl) (by first | omega | (simp <;> omega))) <|hc (bu a7 (aA rfl) (aE rfl) (by first | omega | (simp <;> omega))) <|hc (bu a7 (aA rfl) (aE rfl) (by first | omega | (simp <;> omega))) <|hc (oU (aA rfl) (aA rfl) (neF (by omega))) <|hc (bu a7 (aA rfl) (aE rfl) (by first | omega | (simp <;> omega))) <|hc (ik (i := 0) (aA rfl) (dr (m := 0) rfl) (aE rfl) rfl (by first | omega | (simp <;> omega)) rfl) <|hc (au rfl rfl (by omega)) <|hc (mc (aA rfl) (by first | omega | (simp <;> omega))) <|hc (cH (aA rfl) (aA rfl) (decide_eq_true rfl)) <|hnil
  exact kW (tb := tab2) (ar.bS (ar.bS (ar.bS (ar.bS (ar.bS (ar.lp2 (ar.lp2 (ar.bS (ar.bS (ar.bS ((ae (af (nu2 ln aZ ad ab z nm wd) (rX (ro2 ln aZ ad ab z nm wd) (fun _ => .bool true))) (ah (on2 ln aZ ad ab z nm wd))).hyps ho) (by omega) AQ tS (bH (bR rfl ⟨0, yk, ax.use (l := lf23) (h := lh23) (EE z (by assumption)) (0, (0 : Int)) (rk ⟨by omega, by omega, by omega, by assumption, (fun q hq => And.intro ((by assumption : ∀ q, q ∈ z → q.1.length ≤ 140737488351232) q hq) ((by assumption : ∀ q, q ∈ z → q.2.length ≤ 140737488351232) q hq)), rfl, by omega⟩) rfl (by kernel_rfl) (ao := [(0, I6 0), (2000000, .x 2000000)]) (aj := []) (fun X => bK (show Is _ (I6 0) (.int .i64 ((0 : Int))) from bL (v := .int .i64 0) (bP _ _) (by first | rfl | (congr 1; omega))) (aB (v := aM aK z) rfl rfl (aI))) (by kernel_rfl) (ak := [(2000002, .x 2000000)]) (aB (v := aM aK z) rfl rfl (aI)) (by kernel_rfl)⟩) bE)) (by omega) (aS (by omega) (by omega) pI) pH (bH (bR rfl ⟨0, oL, ax.use (l := lf74) (h := lh74) (aA9 z nm (by first | assumption | (exact List.length_pos_iff.2 (by assumption)))) (0, (0 : Int), ([] : List LB)) (iT ⟨by omega, by omega, by omega, by assumption, ⟨by omega, by assumption⟩, rfl, fun _ => rfl, fun h => by omega, by omega⟩) rfl (by kernel_rfl) (ao := [(0, .x 1), (1, .x 15), (2, I6 0), (2000000, .x 2000002)]) (aj := []) (fun X => aB (v := St' nm) rfl rfl (aB (v := .int .i64 ((z.length : Int))) rfl rfl (bK (show Is _ (I6 0) (.int .i64 ((0 : Int))) from bL (v := .int .i64 0) (bP _ _) (by first | rfl | (congr 1; omega))) (aB (v := aM aK z) rfl rfl (aI))))) (by kernel_rfl) (ak := [(2000003, .x 2000000)]) (aB (v := aM aK z) rfl rfl (aI)) (by kernel_rfl)⟩) bE)) (by omega) (aS (by omega) (by omega) (aS (by omega) (by omega) pF)) pD (bH (bR rfl ⟨0, oK, ax.use (l := lf75) (h := lh75) (aA8 z nm (by first | assumption | (exact List.length_pos_iff.2 (by assumption)))) (0, (0 : Int), ([] : List LB)) (iS ⟨by omega, by omega, by omega, by assumption, ⟨by omega, by assumption⟩, rfl, fun _ => rfl, fun h => by omega, by omega⟩) rfl (by kernel_rfl) (ao := [(0, .x 1), (1, I6 0), (2000000, .x 2000003)]) (aj := []) (fun X => aB (v := St' nm) rfl rfl (bK (show Is _ (I6 0) (.int .i64 ((0 : Int))) from bL (v := .int .i64 0) (bP _ _) (by first | rfl | (congr 1; omega))) (aB (v := aM aK z) rfl rfl (aI)))) (by kernel_rfl) (ak := [(2000004, .x 2000000)]) (aB (v := aM aK z) rfl rfl (aI)) (by kernel_rfl)⟩) bE)) (by omega) (aS (by omega) (by omega) (aS (by omega) (by omega) (aS (by omega) (by omega) o9))) o8 (bH (.inr ⟨⟨rfl, rfl⟩, Ie, pc (l := lf76) (l' := lf77) (h := sD) (h' := lh77) (q := (0, .x 16)) (IZ (l := lf76) (h := sD) (q := (0, .x 16)) z nm wd (by omega) (by omega) (by assumption) (by assumption) (n9 (by assumption)) (by omega) (by omega) rfl rfl (by kernel_rfl) (ao := [(0, .x 1), (1, .x 2), (2000000, .x 2000004)]) (aj := []) (aB (v := St' nm) rfl rfl (aB (v := St' wd) rfl rfl (aB (v := aM aK z) rfl rfl (aI)))) (by kernel_rfl) (ak := [(16, .x 0), (2000004, .x 2000000)]) (aB (v := .bool (bx (av nm z) wd)) rfl rfl (aB (v := aM aK z) rfl rfl (aI))) (by kernel_rfl)) rfl rfl rfl rfl rfl rfl rfl rfl rfl (by kernel_rfl)⟩) bE)) (by omega) (aS (by omega) (by omega) (aS (by omega) (by omega) (aS (by omega) (by omega) (aS (by omega) (by omega) o7)))) o6 (bH (.inr ⟨⟨rfl, rfl⟩, Ic, pc (l := lf78) (l' := lf79) (h := sC) (h' := lh79) (q := (0, .x 17)) (IY (l := lf78) (h := sC) (q := (0, .x 17)) z nm wd (by omega) (by omega) (by assumption) (by assumption) (n9 (by assumption)) (by omega) (by omega) rfl rfl (by kernel_rfl) (ao := [(0, .x 1), (1, .x 2), (2000000, .x 2000004)]) (aj := []) (aB (v := St' nm) rfl rfl (aB (v := St' wd) rfl rfl (aB (v := aM aK z) rfl rfl (aI)))) (by kernel_rfl) (ak := [(17, .x 0), (2000004, .x 2000000)]) (aB (v := .bool (bx (av nm z) wd)) rfl rfl (aB (v := aM aK z) rfl rfl (aI))) (by kernel_rfl)) rfl rfl rfl rfl rfl rfl rfl rfl rfl (by kernel_rfl)⟩) bE)) (by omega) (aS (by omega) (by omega) (aS (by omega) (by omega) (aS (by omega) (by omega) (aS (by omega) (by omega) (aS (by omega) (by omega) Hv))))) Hu (bH (bR rfl ⟨0, ER, ax.use (l := lf80) (h := lh80) (aB1 z nm (by first | assumption | (exact List.length_pos_iff.2 (by assumption)))) (0, (0 : Int), ([] : List (LB × LB))) (mT ⟨by omega, by omega, by omega, by assumption, ⟨by omega, by assumption⟩, rfl, fun _ => rfl, fun h => by omega, by omega⟩) rfl (by kernel_rfl) (ao := [(0, .x 1), (1, .x 18), (2, I6 0), (2000000, .x 2000004)]) (aj := []) (fun X => aB (v := St' nm) rfl rfl (aB (v := .int .i64 ((z.length : Int))) rfl rfl (bK (show Is _ (I6 0) (.int .i64 ((0 : Int))) from bL (v := .int .i64 0) (bP _ _) (by first | rfl | (congr 1; omega))) (aB (v := aM aK z) rfl rfl (aI))))) (by kernel_rfl) (ak := [(2000005, .x 2000000), (2000006, .x 2000001)]) (aB (v := aM aK z) rfl rfl (aB (v := aM aK (bb nm z)) rfl rfl (aI))) (by kernel_rfl)⟩) bE)) (by omega) (aS (by omega) (by omega) (aS (by omega) (by omega) (aS (by omega) (by omega) (aS (by omega) (by omega) (aS (by omega) (by omega) (aS (by omega) (by omega) H7)))))) H6 (bH (bR rfl ⟨0, EP, ax.use (l := lf81) (h := lh81) (aB0 z nm (by first | assumption | (exact List.length_pos_iff.2 (by assumption)))) (0, (0 : Int), ([] : List (LB × LB))) (mS ⟨by omega, by omega, by omega, by assumption, ⟨by omega, by assumption⟩, rfl, fun _ => rfl, fun h => by omega, by omega⟩) rfl (by kernel_rfl) (ao := [(0, .x 1), (1, I6 0), (2000000, .x 2000005)]) (aj := []) (fun X => aB (v := St' nm) rfl rfl (bK (show Is _ (I6 0) (.int .i64 ((0 : Int))) from bL (v := .int .i64 0) (bP _ _) (by first | rfl | (congr 1; omega))) (aB (v := aM aK z) rfl rfl (aI)))) (by kernel_rfl) (ak := [(2000007, .x 2000000), (2000008, .x 2000001)]) (aB (v := aM aK z) rfl rfl (aB (v := aM aK (bb nm z)) rfl rfl (aI))) (by kernel_rfl)⟩) bE)) (by omega) (aS (by omega) (by omega) (aS (by omega) (by omega) (aS (by omega) (by omega) (aS (by omega) (by omega) (aS (by omega) (by omega) (aS (by omega) (by omega) (aS (by omega) (by omega) bF6))))))) aM3 (bH (bR rfl ⟨0, keySm1, ax.use (l := lf82) (h := lh82) (aL3 (bb nm z)) (0, (0 : Int)) (Dd ⟨by omega, by omega, by omega, aM6 (by assumption), by omega⟩) rfl (by kernel_rfl) (ao := [(0, I6 0), (2000000, .x 2000006), (2000001, .x 2000008)]) (aj := []) (fun X => bK (show Is _ (I6 0) (.int .i64 ((0 : Int))) from bL (v := .int .i64 0) (bP _ _) (by first | rfl | (congr 1; omega))) (aB (v := aM aK (bb nm z)) rfl rfl (aB (v := aM aK (bb nm z)) rfl rfl (aI)))) (by kernel_rfl) (ak := [(2000009, .x 2000000), (2000010, .x 2000001)]) (aB (v := aM aK (bb nm z)) rfl rfl (aB (v := aM aK (bb nm z)) rfl rfl (aI))) (by kernel_rfl)⟩) bE)) (by omega) (aS (by omega) (by omega) (aS (by omega) (by omega) (aS (by omega) (by omega) (aS (by omega) (by omega) (aS (by omega) (by omega) (aS (by omega) (by omega) (aS (by omega) (by omega) (aS (by omega) (by omega) Hx)))))))) Hw (bH (bR rfl ⟨0, EM, ax.use (l := lf83) (h := lh83) (EF z) (0, (0 : Int), ([] : LB)) (rp ⟨by omega, by omega, by omega, by assumption, by assumption, rfl, by simp, fun _ => rfl, by omega, by omega⟩) rfl (by kernel_rfl) (ao := [(0, .x 21), (1, I6 0), (2000000, .x 2000007)]) (aj := [(1104, 644)]) (fun X => aB (v := .int .i64 ((z.length : Int))) rfl rfl (bK (show Is _ (I6 0) (.int .i64 ((0 : Int))) from bL (v := .int .i64 0) (bP _ _) (by first | rfl | (congr 1; omega))) (aB (v := aM aK z) rfl rfl (aI)))) (by kernel_rfl) (ak := [(22, .x 0), (2000011, .x 2000000)]) (aB (v := St' (cC z)) rfl rfl (aB (v := aM aK z) rfl rfl (aI))) (by kernel_rfl)⟩) bE)) (by omega) (aS (by omega) (by omega) (aS (by omega) (by omega) (aS (by omega) (by omega) (aS (by omega) (by omega) (aS (by omega) (by omega) (aS (by omega) (by omega) (aS (by omega) (by omega) (aS (by omega) (by omega) (aS (by omega) (by omega) H5))))))))) H4 (bH (bR rfl ⟨0, EL, ax.use (l := lf60) (h := lh60) (ED z) (0, (0 : Int), ([] : LB)) (yB ⟨by omega, by omega, by omega, by assumption, by assumption, rfl, by simp, by omega⟩) rfl (by kernel_rfl) (ao := [(0, I6 0), (1, .s 0 0), (2000000, .x 2000011)]) (aj := []) (fun X => bK (show Is _ (I6 0) (.int .i64 ((0 : Int))) from bL (v := .int .i64 0) (bP _ _) (by first | rfl | (congr 1; omega))) (bK (show Is _ (.s 0 0) (St' ([] : LB)) from bL (v := St' ([] : LB)) (bQ (l := ([] : LB)) 0 0 rfl) (by first | rfl | (simp; done))) (aB (v := aM aK z) rfl rfl (aI)))) (by kernel_rfl) (ak := [(25, .x 0), (2000012, .x 2000000)]) (aB (v := St' (cC z)) rfl rfl (aB (v := aM aK z) rfl rfl (aI))) (by kernel_rfl)⟩) bE)) rfl (aS (by omega) (by omega) (aS (by omega) (by omega) (aS (by omega) (by omega) (aS (by omega) (by omega) (aS (by omega) (by omega) (aS (by omega) (by omega) (aS (by omega) (by omega) (aS (by omega) (by omega) (aS (by omega) (by omega) (cP (by omega))))))))))) AL [.r 2000000 23 2 true] [⟨aZ, ad, z.length, ab⟩] (fun e => run2 e ) (args := [St' ln, .slice (some ⟨aZ, ad, none⟩) z.length ab, St' nm, St' wd]) ⟨_, _, rfl, rfl, ⟨_, _, rfl, kX (by decide) rfl cQ.room, ⟨_, _, rfl, rfl, ⟨_, _, rfl, rfl, rfl⟩⟩⟩⟩ w hl rfl (by decide) (fun e => (lj (cQ.arg (dC e ) rfl) lh)) rfl
end Go.Proofs.YtjkdkpdjmapieaaDoor.fieldTells
