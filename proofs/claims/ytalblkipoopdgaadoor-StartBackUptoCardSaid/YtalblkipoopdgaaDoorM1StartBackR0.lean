/- A part of the proof: an interpreter of the model's own code on partly known states, and that what it answers is what the program answers. No condition of its own. -/
import Derived.Test.YtalblkipoopdgaaDoorM1StartBackO5
set_option maxRecDepth 100000
set_option linter.unusedVariables false
set_option linter.unusedSimpArgs false
set_option maxHeartbeats 4000000
namespace Go.Proofs.YtalblkipoopdgaaDoor.startBack
open Go Go.AX Go.Proofs Go.Proofs.YtalblkipoopdgaaDoor
def hy0 : LK := []
def lh21 : LH := ⟨7, 20, 60, [], []⟩
def lf21 : LF := ⟨8888888, 0, [(0, .x 0)], [], .normal, [(0, .tu [.ag [.s 0 0, .s 0 0, .i .i64 (.ofNat 0), .nils, .s 0 0], .ifc 60 (.ag [.x 1, .x 2])])], some lh21⟩
noncomputable def tab0 : Tab := addLps ({ tabk with hyp := hy0 }) 6 fi6 [lf21]
theorem run0 (e : Nat) : Go.AX.okB (call tab0 9000 4 [.x 0] ⟨H0 e , 7, 0, 0⟩) = true := by kernel_rfl
def nu0 (line : LB) : List Value := [St' line,
  .int .i64 ((cdK (stK line))),
  St' (msg (stK line))]
theorem one0 (line : LB) : ∀ j, j < 1000000 → (nuL (nu0 line) j).oneCell' = true := fun j _ => nuL_one (l := nu0 line) rfl j
theorem path0 (line : LB) (b0 : line.length ≤ 1048576) (h0 : ¬ (stK line = 0)) (w : World) (hl : laidE w) : CwR 4 #[St' line] w (.bool true) := by
  have hcb := cdK_bd (stK line)
  have hcp := cdK_pos (k := stK line) (by assumption)
  have := msg_len (stK line)
  have ho : ∀ k r, (k, r) ∈ hy0 → HOk (cx (nuL (nu0 line)) (one0 line) 1 laidE laidE_stab) k r := by
    unfold hy0
    exact hnil
  exact runP (tb := tab0) (AllOk.lp2 ((tabkOk (nuL (nu0 line)) (one0 line)).hyps ho) (by omega) fi6_at fi6_body (lfCons (.inr ⟨⟨rfl, rfl⟩, cfA6, cfParse_2 (l := lf21) (h := lh21) (q := (0, .tu [.ag [.s 0 0, .s 0 0, .i .i64 (.ofNat 0), .nils, .s 0 0], .ifc 60 (.ag [.x 1, .x 2])])) line (by omega) (by assumption) rfl rfl (by kernel_rfl) (th0 := [(0, .x 0)]) (sg0 := []) (thXv (v := St' line) rfl rfl (thNil)) (by kernel_rfl) (thx := [(1, .x 0), (2, .x 1)]) (thXv (v := .int .i64 ((cdK (stK line)))) rfl rfl (thXv (v := St' (msg (stK line))) rfl rfl (thNil))) (by kernel_rfl)⟩) lfNil)) rfl (get_lps2 (by omega) (by omega) fi4_at) fiB4 (fun e => run0 e ) (args := [St' line]) (by simp only [RelL, Rel]; exact ⟨_, _, rfl, rfl, rfl⟩) w hl
def hy1 : LK := [(.call 8 [.x 2], .tu [.x 2, .s 0 0]),
  (.bin .add (.x 1) (.s 1 32), .x 3),
  (.bin .add (.x 3) (.x 2), .x 4),
  (.bin .add (.x 4) (.s 8 3328493621662205984), .x 5),
  (.bin .add (.x 5) (.s 1 49), .x 6),
  (.bin .eql (.x 6) (.x 0), .b true),
  (.bin .add (.x 2) (.s 1 63), .x 7),
  (.bin .add (.x 7) (.s 0 0), .x 8),
  (.bin .eql (.x 8) (.x 2), .b false),
  (.bin .eql (.x 2) (.x 2), .b true)]
def lh22 : LH := ⟨7, 20, 60, [], []⟩
def lf22 : LF := ⟨8888888, 0, [(0, .x 0)], [], .normal, [(0, .tu [.ag [.x 1, .x 2, .i .i64 (.ofNat 1), .nils, .s 0 0], .ni])], some lh22⟩
noncomputable def tab1 : Tab := addLps ({ tabk with hyp := hy1 }) 6 fi6 [lf22]
theorem run1 (e : Nat) : Go.AX.okB (call tab1 9000 4 [.x 0] ⟨H0 e , 7, 0, 0⟩) = true := by kernel_rfl
def nu1 (line : LB) : List Value := [St' line,
  St' (nthS (spl line) 0),
  St' (nthS (spl line) 1),
  St' ((nthS (spl line) 0) ++ [u8 32]),
  St' ((nthS (spl line) 0) ++ ([u8 32] ++ (nthS (spl line) 1))),
  St' ((nthS (spl line) 0) ++ ([u8 32] ++ ((nthS (spl line) 1) ++ [u8 32, u8 72, u8 84, u8 84, u8 80, u8 47, u8 49, u8 46]))),
  St' ((nthS (spl line) 0) ++ ([u8 32] ++ ((nthS (spl line) 1) ++ [u8 32, u8 72, u8 84, u8 84, u8 80, u8 47, u8 49, u8 46, u8 49]))),
  St' ((nthS (spl line) 1) ++ [u8 63]),
  St' ((nthS (spl line) 1) ++ [u8 63])]
theorem one1 (line : LB) : ∀ j, j < 1000000 → (nuL (nu1 line) j).oneCell' = true := fun j _ => nuL_one (l := nu1 line) rfl j
theorem path1 (line : LB) (b0 : line.length ≤ 1048576) (h0 : stK line = 0) (h1 : (nthS (spl line) 2) = lV1) (h2 : idxB (nthS (spl line) 1) 63 < 0) (w : World) (hl : laidE w) : CwR 4 #[St' line] w (.bool true) := by
  have := spl_le line 0
  have := spl_le line 1
  have h3 := stK_3 (ln := line) (by assumption)
  have hix := ix_bd (nthS (spl line) 1) 63
  have ho : ∀ k r, (k, r) ∈ hy1 → HOk (cx (nuL (nu1 line)) (one1 line) 1 laidE laidE_stab) k r := by
    unfold hy1
    exact hc (hokSpt (t := (nthS (spl line) 1)) (isX rfl) (by rw [(qs_nA (by assumption)).1, (qs_nA (by assumption)).2]; exact denT2 (denX rfl) denS0') (by omega) (by omega)) <|
     hc (kCat (isX rfl) (isSx (l := [u8 32]) 1 32 rfl) (denX rfl) (by first | rfl | (simp; done)) (by first | omega | (simp <;> omega))) <|
     hc (kCat (isX rfl) (isX rfl) (denX rfl) (by first | rfl | (simp; done)) (by first | omega | (simp <;> omega))) <|
     hc (kCat (isX rfl) (isSx (l := [u8 32, u8 72, u8 84, u8 84, u8 80, u8 47, u8 49, u8 46]) 8 3328493621662205984 rfl) (denX rfl) (by first | rfl | (simp; done)) (by first | omega | (simp <;> omega))) <|
     hc (kCat (isX rfl) (isSx (l := [u8 49]) 1 49 rfl) (denX rfl) (by first | rfl | (simp; done)) (by first | omega | (simp <;> omega))) <|
     hc (kEqS (isX rfl) (isX rfl) (decide_eq_true (by have hj := spl_join h3; rw [(by assumption : (nthS (spl line) 2) = lV1)] at hj; simpa using hj))) <|
     hc (kCat (isX rfl) (isSx (l := [u8 63]) 1 63 rfl) (denX rfl) (by first | rfl | (simp; done)) (by first | omega | (simp <;> omega))) <|
     hc (kCat (isX rfl) (isSx (l := ([] : LB)) 0 0 rfl) (denX rfl) (by first | rfl | (simp; done)) (by first | omega | (simp <;> omega))) <|
     hc (kEqS (isX rfl) (isX rfl) (decide_eq_false (by intro e; have := congrArg List.length e; simp at this))) <|
     hc (kEqS (isX rfl) (isX rfl) (decide_eq_true rfl)) <|
     hnil
  exact runP (tb := tab1) (AllOk.lp2 ((tabkOk (nuL (nu1 line)) (one1 line)).hyps ho) (by omega) fi6_at fi6_body (lfCons (.inr ⟨⟨rfl, rfl⟩, cfA6, cfParse_1 (l := lf22) (h := lh22) (q := (0, .tu [.ag [.x 1, .x 2, .i .i64 (.ofNat 1), .nils, .s 0 0], .ni])) line (by omega) (by assumption) (by assumption) rfl rfl (by kernel_rfl) (th0 := [(0, .x 0)]) (sg0 := []) (thXv (v := St' line) rfl rfl (thNil)) (by kernel_rfl) (thx := [(1, .x 0), (2, .x 1)]) (thXv (v := St' (nthS (spl line) 0)) rfl rfl (thXv (v := St' (nthS (spl line) 1)) rfl rfl (thNil))) (by kernel_rfl)⟩) lfNil)) rfl (get_lps2 (by omega) (by omega) fi4_at) fiB4 (fun e => run1 e ) (args := [St' line]) (by simp only [RelL, Rel]; exact ⟨_, _, rfl, rfl, rfl⟩) w hl
def hy2 : LK := [(.call 8 [.x 2], .tu [.x 2, .s 0 0]),
  (.bin .add (.x 1) (.s 1 32), .x 3),
  (.bin .add (.x 3) (.x 2), .x 4),
  (.bin .add (.x 4) (.s 8 3328493621662205984), .x 5),
  (.bin .add (.x 5) (.s 1 48), .x 6),
  (.bin .eql (.x 6) (.x 0), .b true),
  (.bin .add (.x 2) (.s 1 63), .x 7),
  (.bin .add (.x 7) (.s 0 0), .x 8),
  (.bin .eql (.x 8) (.x 2), .b false),
  (.bin .eql (.x 2) (.x 2), .b true)]
def lh23 : LH := ⟨7, 20, 60, [], []⟩
def lf23 : LF := ⟨8888888, 0, [(0, .x 0)], [], .normal, [(0, .tu [.ag [.x 1, .x 2, .i .i64 (.ofNat 0), .nils, .s 0 0], .ni])], some lh23⟩
noncomputable def tab2 : Tab := addLps ({ tabk with hyp := hy2 }) 6 fi6 [lf23]
theorem run2 (e : Nat) : Go.AX.okB (call tab2 9000 4 [.x 0] ⟨H0 e , 7, 0, 0⟩) = true := by kernel_rfl
def nu2 (line : LB) : List Value := [St' line,
  St' (nthS (spl line) 0),
  St' (nthS (spl line) 1),
  St' ((nthS (spl line) 0) ++ [u8 32]),
  St' ((nthS (spl line) 0) ++ ([u8 32] ++ (nthS (spl line) 1))),
  St' ((nthS (spl line) 0) ++ ([u8 32] ++ ((nthS (spl line) 1) ++ [u8 32, u8 72, u8 84, u8 84, u8 80, u8 47, u8 49, u8 46]))),
  St' ((nthS (spl line) 0) ++ ([u8 32] ++ ((nthS (spl line) 1) ++ [u8 32, u8 72, u8 84, u8 84, u8 80, u8 47, u8 49, u8 46, u8 48]))),
  St' ((nthS (spl line) 1) ++ [u8 63]),
  St' ((nthS (spl line) 1) ++ [u8 63])]
theorem one2 (line : LB) : ∀ j, j < 1000000 → (nuL (nu2 line) j).oneCell' = true := fun j _ => nuL_one (l := nu2 line) rfl j
theorem path2 (line : LB) (b0 : line.length ≤ 1048576) (h0 : stK line = 0) (h1 : ¬ ((nthS (spl line) 2) = lV1)) (h2 : idxB (nthS (spl line) 1) 63 < 0) (w : World) (hl : laidE w) : CwR 4 #[St' line] w (.bool true) := by
  have := spl_le line 0
  have := spl_le line 1
  have h3 := stK_3 (ln := line) (by assumption)
  have hv0 : (nthS (spl line) 2) = lV0 := vr_o (stK_v (by assumption)) (by assumption)
  have hix := ix_bd (nthS (spl line) 1) 63
  have ho : ∀ k r, (k, r) ∈ hy2 → HOk (cx (nuL (nu2 line)) (one2 line) 1 laidE laidE_stab) k r := by
    unfold hy2
    exact hc (hokSpt (t := (nthS (spl line) 1)) (isX rfl) (by rw [(qs_nA (by assumption)).1, (qs_nA (by assumption)).2]; exact denT2 (denX rfl) denS0') (by omega) (by omega)) <|
     hc (kCat (isX rfl) (isSx (l := [u8 32]) 1 32 rfl) (denX rfl) (by first | rfl | (simp; done)) (by first | omega | (simp <;> omega))) <|
     hc (kCat (isX rfl) (isX rfl) (denX rfl) (by first | rfl | (simp; done)) (by first | omega | (simp <;> omega))) <|
     hc (kCat (isX rfl) (isSx (l := [u8 32, u8 72, u8 84, u8 84, u8 80, u8 47, u8 49, u8 46]) 8 3328493621662205984 rfl) (denX rfl) (by first | rfl | (simp; done)) (by first | omega | (simp <;> omega))) <|
     hc (kCat (isX rfl) (isSx (l := [u8 48]) 1 48 rfl) (denX rfl) (by first | rfl | (simp; done)) (by first | omega | (simp <;> omega))) <|
     hc (kEqS (isX rfl) (isX rfl) (decide_eq_true (by have hj := spl_join h3; rw [(by assumption : (nthS (spl line) 2) = lV0)] at hj; simpa using hj))) <|
     hc (kCat (isX rfl) (isSx (l := [u8 63]) 1 63 rfl) (denX rfl) (by first | rfl | (simp; done)) (by first | omega | (simp <;> omega))) <|
     hc (kCat (isX rfl) (isSx (l := ([] : LB)) 0 0 rfl) (denX rfl) (by first | rfl | (simp; done)) (by first | omega | (simp <;> omega))) <|
     hc (kEqS (isX rfl) (isX rfl) (decide_eq_false (by intro e; have := congrArg List.length e; simp at this))) <|
     hc (kEqS (isX rfl) (isX rfl) (decide_eq_true rfl)) <|
     hnil
  exact runP (tb := tab2) (AllOk.lp2 ((tabkOk (nuL (nu2 line)) (one2 line)).hyps ho) (by omega) fi6_at fi6_body (lfCons (.inr ⟨⟨rfl, rfl⟩, cfA6, cfParse_0 (l := lf23) (h := lh23) (q := (0, .tu [.ag [.x 1, .x 2, .i .i64 (.ofNat 0), .nils, .s 0 0], .ni])) line (by omega) (by assumption) (by assumption) rfl rfl (by kernel_rfl) (th0 := [(0, .x 0)]) (sg0 := []) (thXv (v := St' line) rfl rfl (thNil)) (by kernel_rfl) (thx := [(1, .x 0), (2, .x 1)]) (thXv (v := St' (nthS (spl line) 0)) rfl rfl (thXv (v := St' (nthS (spl line) 1)) rfl rfl (thNil))) (by kernel_rfl)⟩) lfNil)) rfl (get_lps2 (by omega) (by omega) fi4_at) fiB4 (fun e => run2 e ) (args := [St' line]) (by simp only [RelL, Rel]; exact ⟨_, _, rfl, rfl, rfl⟩) w hl
end Go.Proofs.YtalblkipoopdgaaDoor.startBack
