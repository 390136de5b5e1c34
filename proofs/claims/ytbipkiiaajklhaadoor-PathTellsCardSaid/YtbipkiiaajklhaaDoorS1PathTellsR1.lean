/- A part of the proof: an interpreter of the model's own code on partly known states, and that what it answers is what the program answers. No condition of its own. -/
import Derived.Test.YtbipkiiaajklhaaDoorS1PathTellsO13
set_option maxRecDepth 100000
set_option linter.unusedVariables false
set_option linter.unusedSimpArgs false
set_option maxHeartbeats 4000000
namespace Go.Proofs.YtbipkiiaajklhaaDoor.pathTells
open Go Go.AX Go.Proofs Go.Proofs.YtbipkiiaajklhaaDoor
def hy3 : LK := [(.rn, .x 2000000),
  (.len (.x 0), .x 2),
  (.bin .gtr (.x 2) (I6 400), .b false),
  (.len (.x 1), .x 3),
  (.bin .gtr (.x 3) (I6 400), .b false),
  (.call 5 [.x 0], .tu [.s 0 0, .ifc 51 (.ag [I6 10, .x 4])]),
  (.call 6 [.x 0], .tu [.s 0 0, I6 10]),
  (.call 7 [.ifc 51 (.ag [I6 10, .x 4])], I6 10),
  (.call 11 [.x 0, .x 1], .x 5),
  (.call 12 [.x 0, .x 1], .x 6),
  (.eqb (.x 5) (.x 6), .b true)]
def lh103 : LH := ⟨4, 64, 94, [], []⟩
def lf103 : LF := ⟨8888888, 0, [(0, .x 0)], [], .normal, [(0, .nils)], some lh103⟩
def lh104 : LH := ⟨4, 94, 154, [], []⟩
def lf104 : LF := ⟨8888888, 0, [(0, .x 0)], [], .normal, [(0, .nils)], some lh104⟩
noncomputable def tab3 : Tab := aB2 (aB2 ({ tabk with hyp := hy3 }) 9 fi9 [lf103]) 10 fi10 [lf104]
theorem run3 (e : Nat) : Go.AX.okB (call tab3 9000 3 [.x 0, .x 1] ⟨H0 e , 4, 0, 0⟩) = true := by kernel_rfl
def nu3 (p : LB) (q : LB) : List Value := [St' p,
  St' q,
  .int .i64 ((p.length : Int)),
  .int .i64 ((q.length : Int)),
  St' (clnM p),
  .bool (begS p q),
  .bool (begS p q)]
def ro3 (p : LB) (q : LB) : List Value := [rwS ([] : List LB)]
theorem on3 (p : LB) (q : LB) : ∀ j, (nuL (nu3 p q) j).oneCell' = true := aA2 (l := nu3 p q) rfl
theorem path3 (p : LB) (q : LB) (b0 : p.length ≤ 9223372036854775807) (b1 : q.length ≤ 9223372036854775807) (h0 : ¬ (400 < (p.length : Int))) (h1 : ¬ (400 < (q.length : Int))) (h2 : aB4 unS p = none) (h3 : (segS p).length = 0) (w : World) (hl : aA3 w) : CwR 3 #[St' p, St' q] w (.bool true) := by
  have := cl_le p
  have := aD5 p
  have ho : ∀ k r, (k, r) ∈ hy3 → HOk (cx (nuX (nu3 p q) (rX (ro3 p q) (fun _ => .bool true))) (aA4 (on3 p q)) 1 aA3 aA0) k r := by
    unfold hy3
    exact hc (kRn (denX rfl)) <|hc (lnV rfl rfl (by omega)) <|hc (gtcF rfl (by omega)) <|hc (lnV rfl rfl (by omega)) <|hc (gtcF rfl (by omega)) <|hc (dT0 (s := p) (isX rfl) (by rw [if_pos (by assumption)]; exact aE6 bL4 (bT3 (dI4 (denI .i64 10) (denX rfl)))) (by omega) (by omega)) <|hc (dS7 (s := p) (isX rfl) (by rw [if_pos (by assumption)]; exact aE6 bL4 (denI .i64 10)) (by omega) (by omega)) <|hc (dS9 (m := (clnM p)) (isErr rfl) (denI .i64 10)) <|hc (dT1 (s := p) (q := q) (isX rfl) (isX rfl) (denX rfl) (by omega) (by omega) (by omega) (by omega)) <|hc (dS8 (s := p) (q := q) (isX rfl) (isX rfl) (denX rfl) (by omega) (by omega) (by omega) (by omega)) <|hc (kEqB (isX rfl) (isX rfl)) <|hnil
  exact runP (tb := tab3) (aB3.lp2 (aB3.lp2 ((aB0 (nuX (nu3 p q) (rX (ro3 p q) (fun _ => .bool true))) (aA4 (on3 p q))).hyps ho) (by omega) aP8 aG6 (aB1 (.inr ⟨⟨rfl, rfl⟩, cfA9, aQ1 (l := lf103) (h := lh103) (q := (0, .nils)) p (by omega) (by assumption) rfl rfl (by kernel_rfl) (th0 := [(0, .x 0)]) (sg0 := []) (thXv (v := St' p) rfl rfl (aA6)) (by kernel_rfl) (thx := []) (aA6) (by kernel_rfl)⟩) aC1)) (by omega) (aA8 (by omega) (by omega) aN2) aG0 (aB1 (.inr ⟨⟨rfl, rfl⟩, bD7, aQ2 (l := lf104) (h := lh104) (q := (0, .nils)) p (by omega) (by assumption) rfl rfl (by kernel_rfl) (th0 := [(0, .x 0)]) (sg0 := []) (thXv (v := St' p) rfl rfl (aA6)) (by kernel_rfl) (thx := []) (aA6) (by kernel_rfl)⟩) aC1)) rfl (aA8 (by omega) (by omega) (aA8 (by omega) (by omega) dT9)) fiB3 (fun e => run3 e ) (args := [St' p, St' q]) (by simp only [RelL, Rel]; exact ⟨_, _, rfl, rfl, ⟨_, _, rfl, rfl, rfl⟩⟩) w hl
def hy4 : LK := [(.rn, .x 2000000),
  (.len (.x 0), .x 2),
  (.bin .gtr (.x 2) (I6 400), .b false),
  (.len (.x 1), .x 3),
  (.bin .gtr (.x 3) (I6 400), .b false),
  (.call 5 [.x 0], .tu [.x 4, .ni]),
  (.call 6 [.x 0], .tu [.x 5, I6 0]),
  (.bin .eql (.x 4) (.x 5), .b true),
  (.rl (.x 2000001) 1, .x 6),
  (.rl (.x 2000002) 1, .x 7),
  (.bin .neq (.x 6) (.x 7), .b false),
  (.call 11 [.x 0, .x 1], .x 8),
  (.call 12 [.x 0, .x 1], .x 9),
  (.eqb (.x 8) (.x 9), .b true)]
def lh105 : LH := ⟨4, 64, 94, [], [(64, .r 2000001 9 1 false)]⟩
def lf105 : LF := ⟨8888888, 0, [(0, .x 0)], [], .normal, [(0, .sr 64)], some lh105⟩
def lh106 : LH := ⟨4, 94, 154, [], [(94, .r 2000002 9 1 false)]⟩
def lf106 : LF := ⟨8888888, 0, [(0, .x 0)], [], .normal, [(0, .sr 94)], some lh106⟩
def lh107 : LH := ⟨4, 164, 166, [(64, .r 2000001 9 1 false), (94, .r 2000002 9 1 false)], []⟩
def lf107 : LF := ⟨4, 26, [(0, .sr 64), (1, .sr 94), (5, I6 0)], [], (.exit 0), [], some lh107⟩
noncomputable def tab4 : Tab := aB2 (aB2 (aB2 ({ tabk with hyp := hy4 }) 9 fi9 [lf105]) 10 fi10 [lf106]) 8 fi8 [lf107]
theorem run4 (e : Nat) : Go.AX.okB (call tab4 9000 3 [.x 0, .x 1] ⟨H0 e , 4, 0, 0⟩) = true := by kernel_rfl
def nu4 (p : LB) (q : LB) : List Value := [St' p,
  St' q,
  .int .i64 ((p.length : Int)),
  .int .i64 ((q.length : Int)),
  St' ((aB4 unS p).getD []),
  St' ((aB4 unS p).getD []),
  .int .i64 (((segS p).length : Int)),
  .int .i64 (((segS p).length : Int)),
  .bool (begS p q),
  .bool (begS p q)]
def ro4 (p : LB) (q : LB) : List Value := [rwS ([] : List LB),
  rwS (segS p),
  rwS (segS p)]
theorem on4 (p : LB) (q : LB) : ∀ j, (nuL (nu4 p q) j).oneCell' = true := aA2 (l := nu4 p q) rfl
theorem path4 (p : LB) (q : LB) (b0 : p.length ≤ 9223372036854775807) (b1 : q.length ≤ 9223372036854775807) (h0 : ¬ (400 < (p.length : Int))) (h1 : ¬ (400 < (q.length : Int))) (h2 : ¬ (aB4 unS p = none)) (h3 : ¬ ((segS p).length = 0)) (w : World) (hl : aA3 w) : CwR 3 #[St' p, St' q] w (.bool true) := by
  have := cl_le p
  have := aD5 p
  have ho : ∀ k r, (k, r) ∈ hy4 → HOk (cx (nuX (nu4 p q) (rX (ro4 p q) (fun _ => .bool true))) (aA4 (on4 p q)) 1 aA3 aA0) k r := by
    unfold hy4
    exact hc (kRn (denX rfl)) <|hc (lnV rfl rfl (by omega)) <|hc (gtcF rfl (by omega)) <|hc (lnV rfl rfl (by omega)) <|hc (gtcF rfl (by omega)) <|hc (dT0 (s := p) (isX rfl) (by rw [if_neg (by assumption)]; exact aE6 (denX rfl) aQ0) (by omega) (by omega)) <|hc (dS7 (s := p) (isX rfl) (by rw [if_neg (by assumption)]; exact aE6 (denX rfl) (denI .i64 0)) (by omega) (by omega)) <|hc (kEqS (isX rfl) (isX rfl) (decide_eq_true rfl)) <|hc (kRl (isX rfl) (denX rfl) (by first | omega | (simp <;> omega))) <|hc (kRl (isX rfl) (denX rfl) (by first | omega | (simp <;> omega))) <|hc (kNeI (isX rfl) (isX rfl) (neF (by omega))) <|hc (dT1 (s := p) (q := q) (isX rfl) (isX rfl) (denX rfl) (by omega) (by omega) (by omega) (by omega)) <|hc (dS8 (s := p) (q := q) (isX rfl) (isX rfl) (denX rfl) (by omega) (by omega) (by omega) (by omega)) <|hc (kEqB (isX rfl) (isX rfl)) <|hnil
  exact runP (tb := tab4) (aB3.lp1 (aB3.lp2 (aB3.lp2 ((aB0 (nuX (nu4 p q) (rX (ro4 p q) (fun _ => .bool true))) (aA4 (on4 p q))).hyps ho) (by omega) aP8 aG6 (aB1 (.inr ⟨⟨rfl, rfl⟩, cfA9, aK9 (l := lf105) (h := lh105) (q := (0, .sr 64)) p (by omega) (by assumption) rfl rfl (by kernel_rfl) (th0 := [(0, .x 0)]) (sg0 := []) (thXv (v := St' p) rfl rfl (aA6)) (by kernel_rfl) (thx := [(2000001, .x 2000000)]) (thXv (v := rwS (segS p)) rfl rfl (aA6)) (by kernel_rfl)⟩) aC1)) (by omega) (aA8 (by omega) (by omega) aN2) aG0 (aB1 (.inr ⟨⟨rfl, rfl⟩, bD7, aL0 (l := lf106) (h := lh106) (q := (0, .sr 94)) p (by omega) (by assumption) rfl rfl (by kernel_rfl) (th0 := [(0, .x 0)]) (sg0 := []) (thXv (v := St' p) rfl rfl (aA6)) (by kernel_rfl) (thx := [(2000002, .x 2000000)]) (thXv (v := rwS (segS p)) rfl rfl (aA6)) (by kernel_rfl)⟩) aC1)) (by omega) (aA8 (by omega) (by omega) (aA8 (by omega) (by omega) fi8_at)) cK3 (aB1 (aB9 rfl ⟨0, keySm, dR2 (l := lf107) (h := lh107) (segS p) (by omega) (0, (0 : Int)) (mkISm ⟨by omega, by omega, by omega⟩) rfl (by kernel_rfl) (th0 := [(0, I6 0), (2000000, .x 2000001), (2000001, .x 2000002)]) (sg0 := []) (fun X => aC2 (show Is _ (I6 0) (.int .i64 ((0 : Int))) from isTo (v := .int .i64 0) (isI _ _) (by first | rfl | (congr 1; omega))) (thXv (v := rwS (segS p)) rfl rfl (thXv (v := rwS (segS p)) rfl rfl (aA6)))) (by kernel_rfl) (thx := []) (aA6) (by kernel_rfl)⟩) aC1)) rfl (aA8 (by omega) (by omega) (aA8 (by omega) (by omega) (aA8 (by omega) (by omega) dT9))) fiB3 (fun e => run4 e ) (args := [St' p, St' q]) (by simp only [RelL, Rel]; exact ⟨_, _, rfl, rfl, ⟨_, _, rfl, rfl, rfl⟩⟩) w hl
def hy5 : LK := [(.rn, .x 2000000),
  (.len (.x 0), .x 2),
  (.bin .gtr (.x 2) (I6 400), .b false),
  (.len (.x 1), .x 3),
  (.bin .gtr (.x 3) (I6 400), .b false),
  (.call 5 [.x 0], .tu [.x 4, .ni]),
  (.call 6 [.x 0], .tu [.x 5, I6 0]),
  (.bin .eql (.x 4) (.x 5), .b true),
  (.call 11 [.x 0, .x 1], .x 6),
  (.call 12 [.x 0, .x 1], .x 7),
  (.eqb (.x 6) (.x 7), .b true)]
noncomputable def tab5 : Tab := aB2 (aB2 ({ tabk with hyp := hy5 }) 9 fi9 [lf103]) 10 fi10 [lf104]
theorem run5 (e : Nat) : Go.AX.okB (call tab5 9000 3 [.x 0, .x 1] ⟨H0 e , 4, 0, 0⟩) = true := by kernel_rfl
def nu5 (p : LB) (q : LB) : List Value := [St' p,
  St' q,
  .int .i64 ((p.length : Int)),
  .int .i64 ((q.length : Int)),
  St' ((aB4 unS p).getD []),
  St' ((aB4 unS p).getD []),
  .bool (begS p q),
  .bool (begS p q)]
def ro5 (p : LB) (q : LB) : List Value := [rwS ([] : List LB)]
theorem on5 (p : LB) (q : LB) : ∀ j, (nuL (nu5 p q) j).oneCell' = true := aA2 (l := nu5 p q) rfl
theorem path5 (p : LB) (q : LB) (b0 : p.length ≤ 9223372036854775807) (b1 : q.length ≤ 9223372036854775807) (h0 : ¬ (400 < (p.length : Int))) (h1 : ¬ (400 < (q.length : Int))) (h2 : ¬ (aB4 unS p = none)) (h3 : (segS p).length = 0) (w : World) (hl : aA3 w) : CwR 3 #[St' p, St' q] w (.bool true) := by
  have := cl_le p
  have := aD5 p
  have ho : ∀ k r, (k, r) ∈ hy5 → HOk (cx (nuX (nu5 p q) (rX (ro5 p q) (fun _ => .bool true))) (aA4 (on5 p q)) 1 aA3 aA0) k r := by
    unfold hy5
    exact hc (kRn (denX rfl)) <|hc (lnV rfl rfl (by omega)) <|hc (gtcF rfl (by omega)) <|hc (lnV rfl rfl (by omega)) <|hc (gtcF rfl (by omega)) <|hc (dT0 (s := p) (isX rfl) (by rw [if_neg (by assumption)]; exact aE6 (denX rfl) aQ0) (by omega) (by omega)) <|hc (dS7 (s := p) (isX rfl) (by rw [if_neg (by assumption)]; exact aE6 (denX rfl) (denI .i64 0)) (by omega) (by omega)) <|hc (kEqS (isX rfl) (isX rfl) (decide_eq_true rfl)) <|hc (dT1 (s := p) (q := q) (isX rfl) (isX rfl) (denX rfl) (by omega) (by omega) (by omega) (by omega)) <|hc (dS8 (s := p) (q := q) (isX rfl) (isX rfl) (denX rfl) (by omega) (by omega) (by omega) (by omega)) <|hc (kEqB (isX rfl) (isX rfl)) <|hnil
  exact runP (tb := tab5) (aB3.lp2 (aB3.lp2 ((aB0 (nuX (nu5 p q) (rX (ro5 p q) (fun _ => .bool true))) (aA4 (on5 p q))).hyps ho) (by omega) aP8 aG6 (aB1 (.inr ⟨⟨rfl, rfl⟩, cfA9, aQ1 (l := lf103) (h := lh103) (q := (0, .nils)) p (by omega) (by assumption) rfl rfl (by kernel_rfl) (th0 := [(0, .x 0)]) (sg0 := []) (thXv (v := St' p) rfl rfl (aA6)) (by kernel_rfl) (thx := []) (aA6) (by kernel_rfl)⟩) aC1)) (by omega) (aA8 (by omega) (by omega) aN2) aG0 (aB1 (.inr ⟨⟨rfl, rfl⟩, bD7, aQ2 (l := lf104) (h := lh104) (q := (0, .nils)) p (by omega) (by assumption) rfl rfl (by kernel_rfl) (th0 := [(0, .x 0)]) (sg0 := []) (thXv (v := St' p) rfl rfl (aA6)) (by kernel_rfl) (thx := []) (aA6) (by kernel_rfl)⟩) aC1)) rfl (aA8 (by omega) (by omega) (aA8 (by omega) (by omega) dT9)) fiB3 (fun e => run5 e ) (args := [St' p, St' q]) (by simp only [RelL, Rel]; exact ⟨_, _, rfl, rfl, ⟨_, _, rfl, rfl, rfl⟩⟩) w hl
end Go.Proofs.YtbipkiiaajklhaaDoor.pathTells
