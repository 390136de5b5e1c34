/- A part of the proof: an interpreter of the model's own code on partly known states, and that what it answers is what the program answers. No condition of its own. -/
import Derived.Test.YtbipkiiaajklhaaDoorS1PathTellsO13
set_option maxRecDepth 100000
set_option linter.unusedVariables false
set_option linter.unusedSimpArgs false
set_option maxHeartbeats 4000000
namespace Go.Proofs.YtbipkiiaajklhaaDoor.pathTells
open Go Go.AX Go.Proofs Go.Proofs.YtbipkiiaajklhaaDoor
def hy0 : LK := [(.rn, .x 2000000),
  (.len (.x 0), .x 2),
  (.bin .gtr (.x 2) (I6 400), .b true)]
theorem run0 (e : Nat) : Go.AX.okB (call (tbl hy0) 9000 3 [.x 0, .x 1] ⟨H0 e , 4, 0, 0⟩) = true := by kernel_rfl
def nu0 (p : LB) (q : LB) : List Value := [St' p,
  St' q,
  .int .i64 ((p.length : Int))]
def ro0 (p : LB) (q : LB) : List Value := [rwS ([] : List LB)]
theorem on0 (p : LB) (q : LB) : ∀ j, (nuL (nu0 p q) j).oneCell' = true := aA2 (l := nu0 p q) rfl
theorem path0 (p : LB) (q : LB) (b0 : p.length ≤ 9223372036854775807) (b1 : q.length ≤ 9223372036854775807) (h0 : 400 < (p.length : Int)) (w : World) (hl : aA3 w) : CwR 3 #[St' p, St' q] w (.bool true) := by
  have ho : ∀ k r, (k, r) ∈ hy0 → HOk (cx (nuX (nu0 p q) (rX (ro0 p q) (fun _ => .bool true))) (aA4 (on0 p q)) 1 aA3 aA0) k r := by
    unfold hy0
    exact hc (kRn (denX rfl)) <|hc (lnV rfl rfl (by omega)) <|hc (gtcT rfl (by omega)) <|hnil
  obtain ⟨fi, hfi, hb⟩ := fiE
  exact runP (tb := (tbl hy0)) ((aB0 (nuX (nu0 p q) (rX (ro0 p q) (fun _ => .bool true))) (aA4 (on0 p q))).hyps ho) rfl hfi hb (fun e => run0 e ) (args := [St' p, St' q]) (by simp only [RelL, Rel]; exact ⟨_, _, rfl, rfl, ⟨_, _, rfl, rfl, rfl⟩⟩) w hl
def hy1 : LK := [(.rn, .x 2000000),
  (.len (.x 0), .x 2),
  (.bin .gtr (.x 2) (I6 400), .b false),
  (.len (.x 1), .x 3),
  (.bin .gtr (.x 3) (I6 400), .b true)]
theorem run1 (e : Nat) : Go.AX.okB (call (tbl hy1) 9000 3 [.x 0, .x 1] ⟨H0 e , 4, 0, 0⟩) = true := by kernel_rfl
def nu1 (p : LB) (q : LB) : List Value := [St' p,
  St' q,
  .int .i64 ((p.length : Int)),
  .int .i64 ((q.length : Int))]
def ro1 (p : LB) (q : LB) : List Value := [rwS ([] : List LB)]
theorem on1 (p : LB) (q : LB) : ∀ j, (nuL (nu1 p q) j).oneCell' = true := aA2 (l := nu1 p q) rfl
theorem path1 (p : LB) (q : LB) (b0 : p.length ≤ 9223372036854775807) (b1 : q.length ≤ 9223372036854775807) (h0 : ¬ (400 < (p.length : Int))) (h1 : 400 < (q.length : Int)) (w : World) (hl : aA3 w) : CwR 3 #[St' p, St' q] w (.bool true) := by
  have ho : ∀ k r, (k, r) ∈ hy1 → HOk (cx (nuX (nu1 p q) (rX (ro1 p q) (fun _ => .bool true))) (aA4 (on1 p q)) 1 aA3 aA0) k r := by
    unfold hy1
    exact hc (kRn (denX rfl)) <|hc (lnV rfl rfl (by omega)) <|hc (gtcF rfl (by omega)) <|hc (lnV rfl rfl (by omega)) <|hc (gtcT rfl (by omega)) <|hnil
  obtain ⟨fi, hfi, hb⟩ := fiE
  exact runP (tb := (tbl hy1)) ((aB0 (nuX (nu1 p q) (rX (ro1 p q) (fun _ => .bool true))) (aA4 (on1 p q))).hyps ho) rfl hfi hb (fun e => run1 e ) (args := [St' p, St' q]) (by simp only [RelL, Rel]; exact ⟨_, _, rfl, rfl, ⟨_, _, rfl, rfl, rfl⟩⟩) w hl
def hy2 : LK := [(.rn, .x 2000000),
  (.len (.x 0), .x 2),
  (.bin .gtr (.x 2) (I6 400), .b false),
  (.len (.x 1), .x 3),
  (.bin .gtr (.x 3) (I6 400), .b false),
  (.call 5 [.x 0], .tu [.s 0 0, .ifc 51 (.ag [I6 10, .x 4])]),
  (.call 6 [.x 0], .tu [.s 0 0, I6 10]),
  (.call 7 [.ifc 51 (.ag [I6 10, .x 4])], I6 10),
  (.rl (.x 2000001) 1, .x 5),
  (.rl (.x 2000002) 1, .x 6),
  (.bin .neq (.x 5) (.x 6), .b false),
  (.call 11 [.x 0, .x 1], .x 7),
  (.call 12 [.x 0, .x 1], .x 8),
  (.eqb (.x 7) (.x 8), .b true)]
def lh100 : LH := ⟨4, 64, 94, [], [(64, .r 2000001 9 1 false)]⟩
def lf100 : LF := ⟨8888888, 0, [(0, .x 0)], [], .normal, [(0, .sr 64)], some lh100⟩
def lh101 : LH := ⟨4, 94, 154, [], [(94, .r 2000002 9 1 false)]⟩
def lf101 : LF := ⟨8888888, 0, [(0, .x 0)], [], .normal, [(0, .sr 94)], some lh101⟩
def lh102 : LH := ⟨4, 164, 166, [(64, .r 2000001 9 1 false), (94, .r 2000002 9 1 false)], []⟩
def lf102 : LF := ⟨4, 26, [(0, .sr 64), (1, .sr 94), (5, I6 0)], [], (.exit 0), [], some lh102⟩
noncomputable def tab2 : Tab := aB2 (aB2 (aB2 ({ tabk with hyp := hy2 }) 9 fi9 [lf100]) 10 fi10 [lf101]) 8 fi8 [lf102]
theorem run2 (e : Nat) : Go.AX.okB (call tab2 9000 3 [.x 0, .x 1] ⟨H0 e , 4, 0, 0⟩) = true := by kernel_rfl
def nu2 (p : LB) (q : LB) : List Value := [St' p,
  St' q,
  .int .i64 ((p.length : Int)),
  .int .i64 ((q.length : Int)),
  St' (clnM p),
  .int .i64 (((segS p).length : Int)),
  .int .i64 (((segS p).length : Int)),
  .bool (begS p q),
  .bool (begS p q)]
def ro2 (p : LB) (q : LB) : List Value := [rwS ([] : List LB),
  rwS (segS p),
  rwS (segS p)]
theorem on2 (p : LB) (q : LB) : ∀ j, (nuL (nu2 p q) j).oneCell' = true := aA2 (l := nu2 p q) rfl
theorem path2 (p : LB) (q : LB) (b0 : p.length ≤ 9223372036854775807) (b1 : q.length ≤ 9223372036854775807) (h0 : ¬ (400 < (p.length : Int))) (h1 : ¬ (400 < (q.length : Int))) (h2 : aB4 unS p = none) (h3 : ¬ ((segS p).length = 0)) (w : World) (hl : aA3 w) : CwR 3 #[St' p, St' q] w (.bool true) := by
  have := cl_le p
  have := aD5 p
  have ho : ∀ k r, (k, r) ∈ hy2 → HOk (cx (nuX (nu2 p q) (rX (ro2 p q) (fun _ => .bool true))) (aA4 (on2 p q)) 1 aA3 aA0) k r := by
    unfold hy2
    exact hc (kRn (denX rfl)) <|hc (lnV rfl rfl (by omega)) <|hc (gtcF rfl (by omega)) <|hc (lnV rfl rfl (by omega)) <|hc (gtcF rfl (by omega)) <|hc (dT0 (s := p) (isX rfl) (by rw [if_pos (by assumption)]; exact aE6 bL4 (bT3 (dI4 (denI .i64 10) (denX rfl)))) (by omega) (by omega)) <|hc (dS7 (s := p) (isX rfl) (by rw [if_pos (by assumption)]; exact aE6 bL4 (denI .i64 10)) (by omega) (by omega)) <|hc (dS9 (m := (clnM p)) (isErr rfl) (denI .i64 10)) <|hc (kRl (isX rfl) (denX rfl) (by first | omega | (simp <;> omega))) <|hc (kRl (isX rfl) (denX rfl) (by first | omega | (simp <;> omega))) <|hc (kNeI (isX rfl) (isX rfl) (neF (by omega))) <|hc (dT1 (s := p) (q := q) (isX rfl) (isX rfl) (denX rfl) (by omega) (by omega) (by omega) (by omega)) <|hc (dS8 (s := p) (q := q) (isX rfl) (isX rfl) (denX rfl) (by omega) (by omega) (by omega) (by omega)) <|hc (kEqB (isX rfl) (isX rfl)) <|hnil
  exact runP (tb := tab2) (aB3.lp1 (aB3.lp2 (aB3.lp2 ((aB0 (nuX (nu2 p q) (rX (ro2 p q) (fun _ => .bool true))) (aA4 (on2 p q))).hyps ho) (by omega) aP8 aG6 (aB1 (.inr ⟨⟨rfl, rfl⟩, cfA9, aK9 (l := lf100) (h := lh100) (q := (0, .sr 64)) p (by omega) (by assumption) rfl rfl (by kernel_rfl) (th0 := [(0, .x 0)]) (sg0 := []) (thXv (v := St' p) rfl rfl (aA6)) (by kernel_rfl) (thx := [(2000001, .x 2000000)]) (thXv (v := rwS (segS p)) rfl rfl (aA6)) (by kernel_rfl)⟩) aC1)) (by omega) (aA8 (by omega) (by omega) aN2) aG0 (aB1 (.inr ⟨⟨rfl, rfl⟩, bD7, aL0 (l := lf101) (h := lh101) (q := (0, .sr 94)) p (by omega) (by assumption) rfl rfl (by kernel_rfl) (th0 := [(0, .x 0)]) (sg0 := []) (thXv (v := St' p) rfl rfl (aA6)) (by kernel_rfl) (thx := [(2000002, .x 2000000)]) (thXv (v := rwS (segS p)) rfl rfl (aA6)) (by kernel_rfl)⟩) aC1)) (by omega) (aA8 (by omega) (by omega) (aA8 (by omega) (by omega) fi8_at)) cK3 (aB1 (aB9 rfl ⟨0, keySm, dR2 (l := lf102) (h := lh102) (segS p) (by omega) (0, (0 : Int)) (mkISm ⟨by omega, by omega, by omega⟩) rfl (by kernel_rfl) (th0 := [(0, I6 0), (2000000, .x 2000001), (2000001, .x 2000002)]) (sg0 := []) (fun X => aC2 (show Is _ (I6 0) (.int .i64 ((0 : Int))) from isTo (v := .int .i64 0) (isI _ _) (by first | rfl | (congr 1; omega))) (thXv (v := rwS (segS p)) rfl rfl (thXv (v := rwS (segS p)) rfl rfl (aA6)))) (by kernel_rfl) (thx := []) (aA6) (by kernel_rfl)⟩) aC1)) rfl (aA8 (by omega) (by omega) (aA8 (by omega) (by omega) (aA8 (by omega) (by omega) dT9))) fiB3 (fun e => run2 e ) (args := [St' p, St' q]) (by simp only [RelL, Rel]; exact ⟨_, _, rfl, rfl, ⟨_, _, rfl, rfl, rfl⟩⟩) w hl
end Go.Proofs.YtbipkiiaajklhaaDoor.pathTells
