/- A part of the proof: an interpreter of the model's own code on partly known states, and that what it answers is what the program answers. No condition of its own. -/
import Derived.Test.YtalblkipoopdgaaDoorM1StartTellsO6
set_option maxRecDepth 100000
set_option linter.unusedVariables false
set_option linter.unusedSimpArgs false
set_option maxHeartbeats 4000000
namespace Go.Proofs.YtalblkipoopdgaaDoor.startTells
open Go Go.AX Go.Proofs Go.Proofs.YtalblkipoopdgaaDoor
def hy0 : LK := [(.len (.x 0), .x 2),
  (.bin .gtr (.x 2) (.i .i64 (.ofNat 800)), .b false),
  (.len (.x 1), .x 3),
  (.bin .gtr (.x 3) (.i .i64 (.ofNat 800)), .b false),
  (.call 8 [.x 1], .tu [.x 10, .x 11]),
  (.call 9 [.x 1], .tu [.x 12, .x 13]),
  (.bin .eql (.x 4) (.x 7), .b true),
  (.bin .eql (.x 5) (.x 8), .b true),
  (.bin .eql (.x 6) (.x 9), .b true),
  (.bin .eql (.x 10) (.x 12), .b true),
  (.bin .eql (.x 11) (.x 13), .b true)]
def lh37 : LH := ⟨7, 20, 60, [], []⟩
def lf37 : LF := ⟨8888888, 0, [(0, .x 0)], [], .normal, [(0, .tu [.ag [.x 4, .x 5, .x 6, .nils, .s 0 0], .ni])], some lh37⟩
def lh38 : LH := ⟨7, 80, 180, [], []⟩
def lf38 : LF := ⟨8888888, 0, [(0, .x 0)], [], .normal, [(0, .tu [.ag [.x 7, .x 8, .x 9, .nils, .s 0 0], .i .i64 (.ofNat 0)])], some lh38⟩
noncomputable def tab0 : Tab := addLps (addLps ({ tabk with hyp := hy0 }) 6 fi6 [lf37]) 7 fi7 [lf38]
theorem run0 (e : Nat) : Go.AX.okB (call tab0 9000 3 [.x 0, .x 1] ⟨H0 e , 7, 0, 0⟩) = true := by kernel_rfl
def nu0 (line : LB) (tg : LB) : List Value := [St' line,
  St' tg,
  .int .i64 ((line.length : Int)),
  .int .i64 ((tg.length : Int)),
  St' (nthS (spl line) 0),
  St' (nthS (spl line) 1),
  .int .i64 ((stI line)),
  St' (nthS (spl line) 0),
  St' (nthS (spl line) 1),
  .int .i64 ((stI line)),
  St' (qsA tg),
  St' (qsB tg),
  St' (qsA tg),
  St' (qsB tg)]
theorem one0 (line : LB) (tg : LB) : ∀ j, j < 1000000 → (nuL (nu0 line tg) j).oneCell' = true := fun j _ => nuL_one (l := nu0 line tg) rfl j
theorem path0 (line : LB) (tg : LB) (b0 : line.length ≤ 9223372036854775807) (b1 : tg.length ≤ 9223372036854775807) (h0 : ¬ (800 < (line.length : Int))) (h1 : ¬ (800 < (tg.length : Int))) (h2 : stK line = 0) (w : World) (hl : laidE w) : CwR 3 #[St' line, St' tg] w (.bool true) := by
  have hib := stI_bd line
  have := spl_le line 0
  have := spl_le line 1
  have hqs := qs_len tg
  have ho : ∀ k r, (k, r) ∈ hy0 → HOk (cx (nuL (nu0 line tg)) (one0 line tg) 1 laidE laidE_stab) k r := by
    unfold hy0
    exact hc (lnV rfl rfl (by omega)) <|
     hc (gtcF rfl (by omega)) <|
     hc (lnV rfl rfl (by omega)) <|
     hc (gtcF rfl (by omega)) <|
     hc (hokSpt (t := tg) (isX rfl) (denT2 (denX rfl) (denX rfl)) (by omega) (by omega)) <|
     hc (hokRqs (t := tg) (isX rfl) (denT2 (denX rfl) (denX rfl)) (by omega) (by omega)) <|
     hc (kEqS (isX rfl) (isX rfl) (decide_eq_true rfl)) <|
     hc (kEqS (isX rfl) (isX rfl) (decide_eq_true rfl)) <|
     hc (eqXT rfl rfl (by omega)) <|
     hc (kEqS (isX rfl) (isX rfl) (decide_eq_true rfl)) <|
     hc (kEqS (isX rfl) (isX rfl) (decide_eq_true rfl)) <|
     hnil
  exact runP (tb := tab0) (AllOk.lp2 (AllOk.lp2 ((tabkOk (nuL (nu0 line tg)) (one0 line tg)).hyps ho) (by omega) fi6_at fi6_body (lfCons (.inr ⟨⟨rfl, rfl⟩, cfA6, cfParse_0 (l := lf37) (h := lh37) (q := (0, .tu [.ag [.x 4, .x 5, .x 6, .nils, .s 0 0], .ni])) line (by omega) (by assumption) rfl rfl (by kernel_rfl) (th0 := [(0, .x 0)]) (sg0 := []) (thXv (v := St' line) rfl rfl (thNil)) (by kernel_rfl) (thx := [(4, .x 0), (5, .x 1), (6, .x 2)]) (thXv (v := St' (nthS (spl line) 0)) rfl rfl (thXv (v := St' (nthS (spl line) 1)) rfl rfl (thXv (v := .int .i64 ((stI line))) rfl rfl (thNil)))) (by kernel_rfl)⟩) lfNil)) (by omega) (get_lps2 (by omega) (by omega) fi7_at) fi7_body (lfCons (.inr ⟨⟨rfl, rfl⟩, cfA7, cfRst_0 (l := lf38) (h := lh38) (q := (0, .tu [.ag [.x 7, .x 8, .x 9, .nils, .s 0 0], .i .i64 (.ofNat 0)])) line (by omega) (by assumption) rfl rfl (by kernel_rfl) (th0 := [(0, .x 0)]) (sg0 := []) (thXv (v := St' line) rfl rfl (thNil)) (by kernel_rfl) (thx := [(7, .x 0), (8, .x 1), (9, .x 2)]) (thXv (v := St' (nthS (spl line) 0)) rfl rfl (thXv (v := St' (nthS (spl line) 1)) rfl rfl (thXv (v := .int .i64 ((stI line))) rfl rfl (thNil)))) (by kernel_rfl)⟩) lfNil)) rfl (get_lps2 (by omega) (by omega) (get_lps2 (by omega) (by omega) fi3_at)) fiB3 (fun e => run0 e ) (args := [St' line, St' tg]) (by simp only [RelL, Rel]; exact ⟨_, _, rfl, rfl, ⟨_, _, rfl, rfl, rfl⟩⟩) w hl
def hy1 : LK := [(.len (.x 0), .x 2),
  (.bin .gtr (.x 2) (.i .i64 (.ofNat 800)), .b false),
  (.len (.x 1), .x 3),
  (.bin .gtr (.x 3) (.i .i64 (.ofNat 800)), .b false),
  (.call 8 [.x 1], .tu [.x 7, .x 8]),
  (.call 9 [.x 1], .tu [.x 9, .x 10]),
  (.bin .eql (.x 11) (.x 6), .b true),
  (.bin .eql (.x 7) (.x 9), .b true),
  (.bin .eql (.x 8) (.x 10), .b true)]
def lh39 : LH := ⟨7, 20, 60, [], []⟩
def lf39 : LF := ⟨8888888, 0, [(0, .x 0)], [], .normal, [(0, .tu [.ag [.s 0 0, .s 0 0, .i .i64 (.ofNat 0), .nils, .s 0 0], .ifc 60 (.ag [.x 4, .x 5])])], some lh39⟩
def lh40 : LH := ⟨7, 80, 180, [], []⟩
def lf40 : LF := ⟨8888888, 0, [(0, .x 0)], [], .normal, [(0, .tu [.ag [.s 0 0, .s 0 0, .i .i64 (.ofNat 0), .nils, .s 0 0], .x 6])], some lh40⟩
def lh41 : LH := ⟨7, 190, 200, [(183, .b ⟨40, .l [.i .i64 (.ofNat 0)], 0, 0, 0, false, false⟩)], [(183, .b ⟨40, .l [.x 11], 0, 0, 0, false, false⟩)]⟩
def lf41 : LF := ⟨8888888, 0, [(0, .ifc 60 (.ag [.x 4, .x 5])), (1, .ifc 48 (.p 183 0))], [], .normal, [(0, .b true)], some lh41⟩
noncomputable def tab1 : Tab := addLps (addLps (addLps ({ tabk with hyp := hy1 }) 6 fi6 [lf39]) 7 fi7 [lf40]) 19 fi19 [lf41]
theorem run1 (e : Nat) : Go.AX.okB (call tab1 9000 3 [.x 0, .x 1] ⟨H0 e , 7, 0, 0⟩) = true := by kernel_rfl
def nu1 (line : LB) (tg : LB) : List Value := [St' line,
  St' tg,
  .int .i64 ((line.length : Int)),
  .int .i64 ((tg.length : Int)),
  .int .i64 ((cdK (stK line))),
  St' (msg (stK line)),
  .int .i64 ((cdK (stK line))),
  St' (qsA tg),
  St' (qsB tg),
  St' (qsA tg),
  St' (qsB tg),
  .int .i64 ((cdK (stK line)))]
theorem one1 (line : LB) (tg : LB) : ∀ j, j < 1000000 → (nuL (nu1 line tg) j).oneCell' = true := fun j _ => nuL_one (l := nu1 line tg) rfl j
theorem path1 (line : LB) (tg : LB) (b0 : line.length ≤ 9223372036854775807) (b1 : tg.length ≤ 9223372036854775807) (h0 : ¬ (800 < (line.length : Int))) (h1 : ¬ (800 < (tg.length : Int))) (h2 : ¬ (stK line = 0)) (w : World) (hl : laidE w) : CwR 3 #[St' line, St' tg] w (.bool true) := by
  have hcb := cdK_bd (stK line)
  have hcp := cdK_pos (k := stK line) (by assumption)
  have := msg_len (stK line)
  have hqs := qs_len tg
  have ho : ∀ k r, (k, r) ∈ hy1 → HOk (cx (nuL (nu1 line tg)) (one1 line tg) 1 laidE laidE_stab) k r := by
    unfold hy1
    exact hc (lnV rfl rfl (by omega)) <|
     hc (gtcF rfl (by omega)) <|
     hc (lnV rfl rfl (by omega)) <|
     hc (gtcF rfl (by omega)) <|
     hc (hokSpt (t := tg) (isX rfl) (denT2 (denX rfl) (denX rfl)) (by omega) (by omega)) <|
     hc (hokRqs (t := tg) (isX rfl) (denT2 (denX rfl) (denX rfl)) (by omega) (by omega)) <|
     hc (eqXT rfl rfl (by omega)) <|
     hc (kEqS (isX rfl) (isX rfl) (decide_eq_true rfl)) <|
     hc (kEqS (isX rfl) (isX rfl) (decide_eq_true rfl)) <|
     hnil
  exact runP (tb := tab1) (AllOk.lp2 (AllOk.lp2 (AllOk.lp2 ((tabkOk (nuL (nu1 line tg)) (one1 line tg)).hyps ho) (by omega) fi6_at fi6_body (lfCons (.inr ⟨⟨rfl, rfl⟩, cfA6, cfParse_1 (l := lf39) (h := lh39) (q := (0, .tu [.ag [.s 0 0, .s 0 0, .i .i64 (.ofNat 0), .nils, .s 0 0], .ifc 60 (.ag [.x 4, .x 5])])) line (by omega) (by assumption) rfl rfl (by kernel_rfl) (th0 := [(0, .x 0)]) (sg0 := []) (thXv (v := St' line) rfl rfl (thNil)) (by kernel_rfl) (thx := [(4, .x 0), (5, .x 1)]) (thXv (v := .int .i64 ((cdK (stK line)))) rfl rfl (thXv (v := St' (msg (stK line))) rfl rfl (thNil))) (by kernel_rfl)⟩) lfNil)) (by omega) (get_lps2 (by omega) (by omega) fi7_at) fi7_body (lfCons (.inr ⟨⟨rfl, rfl⟩, cfA7, cfRst_1 (l := lf40) (h := lh40) (q := (0, .tu [.ag [.s 0 0, .s 0 0, .i .i64 (.ofNat 0), .nils, .s 0 0], .x 6])) line (by omega) (by assumption) rfl rfl (by kernel_rfl) (th0 := [(0, .x 0)]) (sg0 := []) (thXv (v := St' line) rfl rfl (thNil)) (by kernel_rfl) (thx := [(6, .x 0)]) (thXv (v := .int .i64 ((cdK (stK line)))) rfl rfl (thNil)) (by kernel_rfl)⟩) lfNil)) (by omega) (get_lps2 (by omega) (by omega) (get_lps2 (by omega) (by omega) fi19_at)) fi19_body (lfCons (.inr ⟨⟨rfl, rfl⟩, cfA19, cfAsy0_0 (l := lf41) (h := lh41) (q := (0, .b true)) (cdK (stK line)) (msg (stK line)) rfl rfl (by kernel_rfl) (th0 := [(0, .x 4), (1, .x 5)]) (sg0 := []) (thXv (v := .int .i64 ((cdK (stK line)))) rfl rfl (thXv (v := St' (msg (stK line))) rfl rfl (thNil))) (by kernel_rfl) (thx := [(11, .x 0)]) (thXv (v := .int .i64 ((cdK (stK line)))) rfl rfl (thNil)) (by kernel_rfl)⟩) lfNil)) rfl (get_lps2 (by omega) (by omega) (get_lps2 (by omega) (by omega) (get_lps2 (by omega) (by omega) fi3_at))) fiB3 (fun e => run1 e ) (args := [St' line, St' tg]) (by simp only [RelL, Rel]; exact ⟨_, _, rfl, rfl, ⟨_, _, rfl, rfl, rfl⟩⟩) w hl
def hy2 : LK := [(.len (.x 0), .x 2),
  (.bin .gtr (.x 2) (.i .i64 (.ofNat 800)), .b true)]
theorem run2 (e : Nat) : Go.AX.okB (call (tbl hy2) 9000 3 [.x 0, .x 1] ⟨H0 e , 7, 0, 0⟩) = true := by kernel_rfl
def nu2 (line : LB) (tg : LB) : List Value := [St' line,
  St' tg,
  .int .i64 ((line.length : Int))]
theorem one2 (line : LB) (tg : LB) : ∀ j, j < 1000000 → (nuL (nu2 line tg) j).oneCell' = true := fun j _ => nuL_one (l := nu2 line tg) rfl j
theorem path2 (line : LB) (tg : LB) (b0 : line.length ≤ 9223372036854775807) (b1 : tg.length ≤ 9223372036854775807) (h0 : 800 < (line.length : Int)) (w : World) (hl : laidE w) : CwR 3 #[St' line, St' tg] w (.bool true) := by
  have ho : ∀ k r, (k, r) ∈ hy2 → HOk (cx (nuL (nu2 line tg)) (one2 line tg) 1 laidE laidE_stab) k r := by
    unfold hy2
    exact hc (lnV rfl rfl (by omega)) <|
     hc (gtcT rfl (by omega)) <|
     hnil
  obtain ⟨fi, hfi, hb⟩ := fiE
  exact runP (tb := (tbl hy2)) ((tabkOk (nuL (nu2 line tg)) (one2 line tg)).hyps ho) rfl hfi hb (fun e => run2 e ) (args := [St' line, St' tg]) (by simp only [RelL, Rel]; exact ⟨_, _, rfl, rfl, ⟨_, _, rfl, rfl, rfl⟩⟩) w hl
end Go.Proofs.YtalblkipoopdgaaDoor.startTells
