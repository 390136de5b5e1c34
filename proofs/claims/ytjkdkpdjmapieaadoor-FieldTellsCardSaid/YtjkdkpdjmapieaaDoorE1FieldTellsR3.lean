/- A part of the proof: what an interpreter answers on partly known states is what the program answers. No condition. -/
import Derived.Test.YtjkdkpdjmapieaaDoorE1FieldTellsO9
set_option maxRecDepth 100000
set_option linter.unusedVariables false
set_option linter.unusedSimpArgs false
set_option maxHeartbeats 4000000
namespace Go.Proofs.YtjkdkpdjmapieaaDoor.fieldTells
open Go Go.AX Go.Proofs Go.Proofs.YtjkdkpdjmapieaaDoor
def hy9 : LK := [(.bytes [], .x 3),
  (.rn, .x 2000000),
  (.len (.x 0), .x 4),
  (.bin .gtr (.x 4) (I6 1500), .b false),
  (.len (.x 1), .x 5),
  (.bin .gtr (.x 5) (I6 100), .b false),
  (.len (.x 2), .x 6),
  (.bin .gtr (.x 6) (I6 100), .b true)]
theorem run9 (e : Nat) : Go.AX.okB (call (aV hy9) 9000 4 [.x 0, .es, .x 1, .x 2] ⟨H0 e , 4, 0, 0⟩) = true := by kernel_rfl
noncomputable def nu9 (ln : LB) (bW : Option Addr) (bV : Nat) (nm : LB) (wd : LB) : List Value := [St' ln,
  St' nm,
  St' wd,
  St' ([] : LB),
  .int .i64 ((ln.length : Int)),
  .int .i64 ((nm.length : Int)),
  .int .i64 ((wd.length : Int))]
def ro9 (ln : LB) (bW : Option Addr) (bV : Nat) (nm : LB) (wd : LB) : List Value := [aO ([] : List LB)]
theorem on9 (ln : LB) (bW : Option Addr) (bV : Nat) (nm : LB) (wd : LB) : ∀ j, (ai (nu9 ln bW bV nm wd) j).oneCell' = true := aQ (l := nu9 ln bW bV nm wd) (by unfold nu9; simp only [List.all_cons, List.all_nil, Bool.and_true, Bool.true_and, gF]; rfl)
theorem path9 (ln : LB) (bW : Option Addr) (bV : Nat) (nm : LB) (wd : LB) (b0 : ln.length ≤ 9223372036854775807) (b1 : nm.length ≤ 9223372036854775807) (b2 : wd.length ≤ 9223372036854775807) (h0 : ¬ (1500 < (ln.length : Int))) (h1 : ¬ (100 < (nm.length : Int))) (h2 : 100 < (wd.length : Int)) (w : World) (hl : aC w) : bN 4 #[St' ln, .slice bW 0 bV, St' nm, St' wd] w (.bool true) := by
  have hn0 : ([] : LB).length = 0 := rfl
  have ho : ∀ k r, (k, r) ∈ hy9 → aL (cx (af (nu9 ln bW bV nm wd) (rX (ro9 ln bW bV nm wd) (fun _ => .bool true))) (ah (on9 ln bW bV nm wd)) 1 aC aG) k r := by
    unfold hy9
    exact hc (kB0 rfl) <|hc (da (aE rfl)) <|hc (au rfl rfl (by omega)) <|hc (bq rfl (by omega)) <|hc (au rfl rfl (by omega)) <|hc (bq rfl (by omega)) <|hc (au rfl rfl (by omega)) <|hc (dU rfl (by omega)) <|hnil
  obtain ⟨fi, hfi, hb⟩ := lL
  exact qi (tb := (aV hy9)) ((ae (af (nu9 ln bW bV nm wd) (rX (ro9 ln bW bV nm wd) (fun _ => .bool true))) (ah (on9 ln bW bV nm wd))).hyps ho) rfl hfi hb (fun e => run9 e ) (args := [St' ln, .slice bW 0 bV, St' nm, St' wd]) (by simp only [aF, Rel]; exact ⟨_, _, rfl, rfl, ⟨_, _, rfl, ⟨_, _, rfl⟩, ⟨_, _, rfl, rfl, ⟨_, _, rfl, rfl, rfl⟩⟩⟩⟩) w hl
def zZ : LK := [(.bytes [], .x 3),
  (.rn, .x 2000001),
  (.len (.x 0), .x 4),
  (.bin .gtr (.x 4) (I6 1500), .b false),
  (.rl (.x 2000000) 2, .x 5),
  (.bin .gtr (.x 5) (I6 20), .b false),
  (.len (.x 1), .x 6),
  (.bin .gtr (.x 6) (I6 100), .b false),
  (.len (.x 2), .x 7),
  (.bin .gtr (.x 7) (I6 100), .b true)]
theorem run10 (e : Nat) : Go.AX.okB (call (aV zZ) 9000 4 [.x 0, .sr 4, .x 1, .x 2] ⟨fM 4 [.r 2000000 23 2 true] (H0 e ), 4 + List.length (α := aR) [.r 2000000 23 2 true], 0, 0⟩) = true := by kernel_rfl
noncomputable def rL (ln : LB) (aZ : Nat) (ad : Nat) (ab : Nat) (z : List (LB × LB)) (nm : LB) (wd : LB) : List Value := [St' ln,
  St' nm,
  St' wd,
  St' ([] : LB),
  .int .i64 ((ln.length : Int)),
  .int .i64 ((z.length : Int)),
  .int .i64 ((nm.length : Int)),
  .int .i64 ((wd.length : Int))]
def ro10 (ln : LB) (aZ : Nat) (ad : Nat) (ab : Nat) (z : List (LB × LB)) (nm : LB) (wd : LB) : List Value := [aM aK z,
  aO ([] : List LB)]
theorem on10 (ln : LB) (aZ : Nat) (ad : Nat) (ab : Nat) (z : List (LB × LB)) (nm : LB) (wd : LB) : ∀ j, (ai (rL ln aZ ad ab z nm wd) j).oneCell' = true := aQ (l := rL ln aZ ad ab z nm wd) (by unfold rL; simp only [List.all_cons, List.all_nil, Bool.and_true, Bool.true_and, gF]; rfl)
theorem path10 (ln : LB) (aZ : Nat) (ad : Nat) (ab : Nat) (z : List (LB × LB)) (nm : LB) (wd : LB) (b0 : ln.length ≤ 9223372036854775807) (b1 : 1 ≤ z.length) (b2 : ∀ n, n ∈ z → dH n) (b3 : ∀ q, q ∈ z → q.1.length ≤ 140737488351232) (b4 : ∀ q, q ∈ z → q.2.length ≤ 140737488351232) (b5 : z.length ≤ 9223372036854775807) (b6 : nm.length ≤ 9223372036854775807) (b7 : wd.length ≤ 9223372036854775807) (h0 : ¬ (1500 < (ln.length : Int))) (h1 : ¬ (20 < (z.length : Int))) (h2 : ¬ (100 < (nm.length : Int))) (h3 : 100 < (wd.length : Int)) (w : World) (hl : aC w) (cQ : iJ w 2 (z.flatMap aK) aZ ad z.length ab) (dC : ∀ e, (H0 e ).get aZ = none) : bN 4 #[St' ln, .slice (some ⟨aZ, ad, none⟩) z.length ab, St' nm, St' wd] w (.bool true) := by
  have hn0 : ([] : LB).length = 0 := rfl
  have ho : ∀ k r, (k, r) ∈ zZ → aL (cx (af (rL ln aZ ad ab z nm wd) (rX (ro10 ln aZ ad ab z nm wd) (fun _ => .bool true))) (ah (on10 ln aZ ad ab z nm wd)) 1 aC aG) k r := by
    unfold zZ
    exact hc (kB0 rfl) <|hc (da (aE rfl)) <|hc (au rfl rfl (by omega)) <|hc (bq rfl (by omega)) <|hc (bu a7 (aA rfl) (aE rfl) (by first | omega | (simp <;> omega))) <|hc (bq rfl (by omega)) <|hc (au rfl rfl (by omega)) <|hc (bq rfl (by omega)) <|hc (au rfl rfl (by omega)) <|hc (dU rfl (by omega)) <|hnil
  obtain ⟨fi, hfi, hb⟩ := lL
  exact kW (tb := (aV zZ)) ((ae (af (rL ln aZ ad ab z nm wd) (rX (ro10 ln aZ ad ab z nm wd) (fun _ => .bool true))) (ah (on10 ln aZ ad ab z nm wd))).hyps ho) rfl hfi hb [.r 2000000 23 2 true] [⟨aZ, ad, z.length, ab⟩] (fun e => run10 e ) (args := [St' ln, .slice (some ⟨aZ, ad, none⟩) z.length ab, St' nm, St' wd]) ⟨_, _, rfl, rfl, ⟨_, _, rfl, kX (by decide) rfl cQ.room, ⟨_, _, rfl, rfl, ⟨_, _, rfl, rfl, rfl⟩⟩⟩⟩ w hl rfl (by decide) (fun e => (lj (cQ.arg (dC e ) rfl) lh)) rfl
def hy11 : LK := [(.bytes [], .x 3),
  (.rn, .x 2000001),
  (.len (.x 0), .x 4),
  (.bin .gtr (.x 4) (I6 1500), .b false),
  (.rl (.x 2000000) 2, .x 5),
  (.bin .gtr (.x 5) (I6 20), .b false),
  (.len (.x 1), .x 6),
  (.bin .gtr (.x 6) (I6 100), .b false),
  (.len (.x 2), .x 7),
  (.bin .gtr (.x 7) (I6 100), .b false)]
def lh123 : LH := ⟨4, 24, 54, [(4, .r 2000000 23 2 true)], [(4, .r 2000002 23 2 true)]⟩
def lf123 : LF := ⟨6, 140, [(1, .sr 4), (9, I6 0)], [0, 2, 3], .ret, [(8, .b true)], some lh123⟩
noncomputable def tab11 : Tab := bI ({ bB with hyp := hy11 }) 4 fi4 [lf123]
theorem run11 (e : Nat) : Go.AX.okB (call tab11 9000 4 [.x 0, .sr 4, .x 1, .x 2] ⟨fM 4 [.r 2000000 23 2 true] (H0 e ), 4 + List.length (α := aR) [.r 2000000 23 2 true], 0, 0⟩) = true := by kernel_rfl
noncomputable def rK (ln : LB) (aZ : Nat) (ad : Nat) (ab : Nat) (z : List (LB × LB)) (nm : LB) (wd : LB) : List Value := [St' ln,
  St' nm,
  St' wd,
  St' ([] : LB),
  .int .i64 ((ln.length : Int)),
  .int .i64 ((z.length : Int)),
  .int .i64 ((nm.length : Int)),
  .int .i64 ((wd.length : Int))]
def ro11 (ln : LB) (aZ : Nat) (ad : Nat) (ab : Nat) (z : List (LB × LB)) (nm : LB) (wd : LB) : List Value := [aM aK z,
  aO ([] : List LB),
  aM aK z]
theorem on11 (ln : LB) (aZ : Nat) (ad : Nat) (ab : Nat) (z : List (LB × LB)) (nm : LB) (wd : LB) : ∀ j, (ai (rK ln aZ ad ab z nm wd) j).oneCell' = true := aQ (l := rK ln aZ ad ab z nm wd) (by unfold rK; simp only [List.all_cons, List.all_nil, Bool.and_true, Bool.true_and, gF]; rfl)
theorem path11 (ln : LB) (aZ : Nat) (ad : Nat) (ab : Nat) (z : List (LB × LB)) (nm : LB) (wd : LB) (b0 : ln.length ≤ 9223372036854775807) (b1 : 1 ≤ z.length) (b2 : ∀ n, n ∈ z → dH n) (b3 : ∀ q, q ∈ z → q.1.length ≤ 140737488351232) (b4 : ∀ q, q ∈ z → q.2.length ≤ 140737488351232) (b5 : z.length ≤ 9223372036854775807) (b6 : nm.length ≤ 9223372036854775807) (b7 : wd.length ≤ 9223372036854775807) (h0 : ¬ (1500 < (ln.length : Int))) (h1 : ¬ (20 < (z.length : Int))) (h2 : ¬ (100 < (nm.length : Int))) (h3 : ¬ (100 < (wd.length : Int))) (h4 : ¬ (dS z = true)) (w : World) (hl : aC w) (cQ : iJ w 2 (z.flatMap aK) aZ ad z.length ab) (dC : ∀ e, (H0 e ).get aZ = none) : bN 4 #[St' ln, .slice (some ⟨aZ, ad, none⟩) z.length ab, St' nm, St' wd] w (.bool true) := by
  have hn0 : ([] : LB).length = 0 := rfl
  have ho : ∀ k r, (k, r) ∈ hy11 → aL (cx (af (rK ln aZ ad ab z nm wd) (rX (ro11 ln aZ ad ab z nm wd) (fun _ => .bool true))) (ah (on11 ln aZ ad ab z nm wd)) 1 aC aG) k r := by
    unfold hy11
    exact hc (kB0 rfl) <|hc (da (aE rfl)) <|hc (au rfl rfl (by omega)) <|hc (bq rfl (by omega)) <|hc (bu a7 (aA rfl) (aE rfl) (by first | omega | (simp <;> omega))) <|hc (bq rfl (by omega)) <|hc (au rfl rfl (by omega)) <|hc (bq rfl (by omega)) <|hc (au rfl rfl (by omega)) <|hc (bq rfl (by omega)) <|hnil
  exact kW (tb := tab11) (ar.bS ((ae (af (rK ln aZ ad ab z nm wd) (rX (ro11 ln aZ ad ab z nm wd) (fun _ => .bool true))) (ah (on11 ln aZ ad ab z nm wd))).hyps ho) (by omega) AQ tS (bH (bR rfl ⟨0, yk, ax.use (l := lf123) (h := lh123) (lfOkOk_1 z (Bool.eq_false_iff.2 (by assumption))) (0, (0 : Int)) (rk ⟨by omega, by omega, by omega, by assumption, (fun q hq => And.intro ((by assumption : ∀ q, q ∈ z → q.1.length ≤ 140737488351232) q hq) ((by assumption : ∀ q, q ∈ z → q.2.length ≤ 140737488351232) q hq)), rfl, by omega⟩) rfl (by kernel_rfl) (ao := [(0, I6 0), (2000000, .x 2000000)]) (aj := []) (fun X => bK (show Is _ (I6 0) (.int .i64 ((0 : Int))) from bL (v := .int .i64 0) (bP _ _) (by first | rfl | (congr 1; omega))) (aB (v := aM aK z) rfl rfl (aI))) (by kernel_rfl) (ak := [(2000002, .x 2000000)]) (aB (v := aM aK z) rfl rfl (aI)) (by kernel_rfl)⟩) bE)) rfl (cP (by omega)) AL [.r 2000000 23 2 true] [⟨aZ, ad, z.length, ab⟩] (fun e => run11 e ) (args := [St' ln, .slice (some ⟨aZ, ad, none⟩) z.length ab, St' nm, St' wd]) ⟨_, _, rfl, rfl, ⟨_, _, rfl, kX (by decide) rfl cQ.room, ⟨_, _, rfl, rfl, ⟨_, _, rfl, rfl, rfl⟩⟩⟩⟩ w hl rfl (by decide) (fun e => (lj (cQ.arg (dC e ) rfl) lh)) rfl
end Go.Proofs.YtjkdkpdjmapieaaDoor.fieldTells
