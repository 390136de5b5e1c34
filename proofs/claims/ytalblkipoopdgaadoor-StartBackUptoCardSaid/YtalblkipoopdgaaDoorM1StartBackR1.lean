/- A part of the proof: an interpreter of the model's own code on partly known states, and that what it answers is what the program answers. No condition of its own. -/
import Derived.Test.YtalblkipoopdgaaDoorM1StartBackO5
set_option maxRecDepth 100000
set_option linter.unusedVariables false
set_option linter.unusedSimpArgs false
set_option maxHeartbeats 4000000
namespace Go.Proofs.YtalblkipoopdgaaDoor.startBack
open Go Go.AX Go.Proofs Go.Proofs.YtalblkipoopdgaaDoor
def hy3 : LK := [(.call 8 [.x 2], .tu [.x 3, .x 4]),
  (.bin .add (.x 1) (.s 1 32), .x 5),
  (.bin .add (.x 5) (.x 2), .x 6),
  (.bin .add (.x 6) (.s 8 3328493621662205984), .x 7),
  (.bin .add (.x 7) (.s 1 49), .x 8),
  (.bin .eql (.x 8) (.x 0), .b true),
  (.bin .add (.x 3) (.s 1 63), .x 9),
  (.bin .add (.x 9) (.x 4), .x 10),
  (.bin .eql (.x 10) (.x 2), .b true)]
def lh24 : LH := ⟨7, 20, 60, [], []⟩
def lf24 : LF := ⟨8888888, 0, [(0, .x 0)], [], .normal, [(0, .tu [.ag [.x 1, .x 2, .i .i64 (.ofNat 1), .nils, .s 0 0], .ni])], some lh24⟩
noncomputable def tab3 : Tab := addLps ({ tabk with hyp := hy3 }) 6 fi6 [lf24]
theorem run3 (e : Nat) : Go.AX.okB (call tab3 9000 4 [.x 0] ⟨H0 e , 7, 0, 0⟩) = true := by kernel_rfl
def nu3 (line : LB) : List Value := [St' line,
  St' (nthS (spl line) 0),
  St' (nthS (spl line) 1),
  St' (List.take (Int.toNat (idxB (nthS (spl line) 1) 63)) (nthS (spl line) 1)),
  St' (List.drop (Int.toNat (idxB (nthS (spl line) 1) 63 + 1)) (nthS (spl line) 1)),
  St' ((nthS (spl line) 0) ++ [u8 32]),
  St' ((nthS (spl line) 0) ++ ([u8 32] ++ (nthS (spl line) 1))),
  St' ((nthS (spl line) 0) ++ ([u8 32] ++ ((nthS (spl line) 1) ++ [u8 32, u8 72, u8 84, u8 84, u8 80, u8 47, u8 49, u8 46]))),
  St' ((nthS (spl line) 0) ++ ([u8 32] ++ ((nthS (spl line) 1) ++ [u8 32, u8 72, u8 84, u8 84, u8 80, u8 47, u8 49, u8 46, u8 49]))),
  St' ((List.take (Int.toNat (idxB (nthS (spl line) 1) 63)) (nthS (spl line) 1)) ++ [u8 63]),
  St' ((List.take (Int.toNat (idxB (nthS (spl line) 1) 63)) (nthS (spl line) 1)) ++ ([u8 63] ++ (List.drop (Int.toNat (idxB (nthS (spl line) 1) 63 + 1)) (nthS (spl line) 1))))]
theorem one3 (line : LB) : ∀ j, j < 1000000 → (nuL (nu3 line) j).oneCell' = true := fun j _ => nuL_one (l := nu3 line) rfl j
theorem path3 (line : LB) (b0 : line.length ≤ 1048576) (h0 : stK line = 0) (h1 : (nthS (spl line) 2) = lV1) (h2 : ¬ (idxB (nthS (spl line) 1) 63 < 0)) (w : World) (hl : laidE w) : CwR 4 #[St' line] w (.bool true) := by
  have := spl_le line 0
  have := spl_le line 1
  have h3 := stK_3 (ln := line) (by assumption)
  have hix := ix_bd (nthS (spl line) 1) 63
  have hta : ((List.take (Int.toNat (idxB (nthS (spl line) 1) 63)) (nthS (spl line) 1)).length : Int) = idxB (nthS (spl line) 1) 63 := by rw [List.length_take]; omega
  have htb : ((List.drop (Int.toNat (idxB (nthS (spl line) 1) 63 + 1)) (nthS (spl line) 1)).length : Int) = ((nthS (spl line) 1).length : Int) - idxB (nthS (spl line) 1) 63 - 1 := by rw [List.length_drop]; omega
  have ho : ∀ k r, (k, r) ∈ hy3 → HOk (cx (nuL (nu3 line)) (one3 line) 1 laidE laidE_stab) k r := by
    unfold hy3
    exact hc (hokSpt (t := (nthS (spl line) 1)) (isX rfl) (by rw [(qs_yA (by omega)).1, (qs_yA (by omega)).2]; exact denT2 (denX rfl) (denX rfl)) (by omega) (by omega)) <|
     hc (kCat (isX rfl) (isSx (l := [u8 32]) 1 32 rfl) (denX rfl) (by first | rfl | (simp; done)) (by first | omega | (simp <;> omega))) <|
     hc (kCat (isX rfl) (isX rfl) (denX rfl) (by first | rfl | (simp; done)) (by first | omega | (simp <;> omega))) <|
     hc (kCat (isX rfl) (isSx (l := [u8 32, u8 72, u8 84, u8 84, u8 80, u8 47, u8 49, u8 46]) 8 3328493621662205984 rfl) (denX rfl) (by first | rfl | (simp; done)) (by first | omega | (simp <;> omega))) <|
     hc (kCat (isX rfl) (isSx (l := [u8 49]) 1 49 rfl) (denX rfl) (by first | rfl | (simp; done)) (by first | omega | (simp <;> omega))) <|
     hc (kEqS (isX rfl) (isX rfl) (decide_eq_true (by have hj := spl_join h3; rw [(by assumption : (nthS (spl line) 2) = lV1)] at hj; simpa using hj))) <|
     hc (kCat (isX rfl) (isSx (l := [u8 63]) 1 63 rfl) (denX rfl) (by first | rfl | (simp; done)) (by first | omega | (simp <;> omega))) <|
     hc (kCat (isX rfl) (isX rfl) (denX rfl) (by first | rfl | (simp; done)) (by first | omega | (simp <;> omega))) <|
     hc (kEqS (isX rfl) (isX rfl) (decide_eq_true (by have hj := drop_u8 (t := []) (nthS (spl line) 1) (c := 63) (by omega); simpa using hj))) <|
     hnil
  exact runP (tb := tab3) (AllOk.lp2 ((tabkOk (nuL (nu3 line)) (one3 line)).hyps ho) (by omega) fi6_at fi6_body (lfCons (.inr ⟨⟨rfl, rfl⟩, cfA6, cfParse_1 (l := lf24) (h := lh24) (q := (0, .tu [.ag [.x 1, .x 2, .i .i64 (.ofNat 1), .nils, .s 0 0], .ni])) line (by omega) (by assumption) (by assumption) rfl rfl (by kernel_rfl) (th0 := [(0, .x 0)]) (sg0 := []) (thXv (v := St' line) rfl rfl (thNil)) (by kernel_rfl) (thx := [(1, .x 0), (2, .x 1)]) (thXv (v := St' (nthS (spl line) 0)) rfl rfl (thXv (v := St' (nthS (spl line) 1)) rfl rfl (thNil))) (by kernel_rfl)⟩) lfNil)) rfl (get_lps2 (by omega) (by omega) fi4_at) fiB4 (fun e => run3 e ) (args := [St' line]) (by simp only [RelL, Rel]; exact ⟨_, _, rfl, rfl, rfl⟩) w hl
def hy4 : LK := [(.call 8 [.x 2], .tu [.x 3, .x 4]),
  (.bin .add (.x 1) (.s 1 32), .x 5),
  (.bin .add (.x 5) (.x 2), .x 6),
  (.bin .add (.x 6) (.s 8 3328493621662205984), .x 7),
  (.bin .add (.x 7) (.s 1 48), .x 8),
  (.bin .eql (.x 8) (.x 0), .b true),
  (.bin .add (.x 3) (.s 1 63), .x 9),
  (.bin .add (.x 9) (.x 4), .x 10),
  (.bin .eql (.x 10) (.x 2), .b true)]
def lh25 : LH := ⟨7, 20, 60, [], []⟩
def lf25 : LF := ⟨8888888, 0, [(0, .x 0)], [], .normal, [(0, .tu [.ag [.x 1, .x 2, .i .i64 (.ofNat 0), .nils, .s 0 0], .ni])], some lh25⟩
noncomputable def tab4 : Tab := addLps ({ tabk with hyp := hy4 }) 6 fi6 [lf25]
theorem run4 (e : Nat) : Go.AX.okB (call tab4 9000 4 [.x 0] ⟨H0 e , 7, 0, 0⟩) = true := by kernel_rfl
def nu4 (line : LB) : List Value := [St' line,
  St' (nthS (spl line) 0),
  St' (nthS (spl line) 1),
  St' (List.take (Int.toNat (idxB (nthS (spl line) 1) 63)) (nthS (spl line) 1)),
  St' (List.drop (Int.toNat (idxB (nthS (spl line) 1) 63 + 1)) (nthS (spl line) 1)),
  St' ((nthS (spl line) 0) ++ [u8 32]),
  St' ((nthS (spl line) 0) ++ ([u8 32] ++ (nthS (spl line) 1))),
  St' ((nthS (spl line) 0) ++ ([u8 32] ++ ((nthS (spl line) 1) ++ [u8 32, u8 72, u8 84, u8 84, u8 80, u8 47, u8 49, u8 46]))),
  St' ((nthS (spl line) 0) ++ ([u8 32] ++ ((nthS (spl line) 1) ++ [u8 32, u8 72, u8 84, u8 84, u8 80, u8 47, u8 49, u8 46, u8 48]))),
  St' ((List.take (Int.toNat (idxB (nthS (spl line) 1) 63)) (nthS (spl line) 1)) ++ [u8 63]),
  St' ((List.take (Int.toNat (idxB (nthS (spl line) 1) 63)) (nthS (spl line) 1)) ++ ([u8 63] ++ (List.drop (Int.toNat (idxB (nthS (spl line) 1) 63 + 1)) (nthS (spl line) 1))))]
theorem one4 (line : LB) : ∀ j, j < 1000000 → (nuL (nu4 line) j).oneCell' = true := fun j _ => nuL_one (l := nu4 line) rfl j
theorem path4 (line : LB) (b0 : line.length ≤ 1048576) (h0 : stK line = 0) (h1 : ¬ ((nthS (spl line) 2) = lV1)) (h2 : ¬ (idxB (nthS (spl line) 1) 63 < 0)) (w : World) (hl : laidE w) : CwR 4 #[St' line] w (.bool true) := by
  have := spl_le line 0
  have := spl_le line 1
  have h3 := stK_3 (ln := line) (by assumption)
  have hv0 : (nthS (spl line) 2) = lV0 := vr_o (stK_v (by assumption)) (by assumption)
  have hix := ix_bd (nthS (spl line) 1) 63
  have hta : ((List.take (Int.toNat (idxB (nthS (spl line) 1) 63)) (nthS (spl line) 1)).length : Int) = idxB (nthS (spl line) 1) 63 := by rw [List.length_take]; omega
  have htb : ((List.drop (Int.toNat (idxB (nthS (spl line) 1) 63 + 1)) (nthS (spl line) 1)).length : Int) = ((nthS (spl line) 1).length : Int) - idxB (nthS (spl line) 1) 63 - 1 := by rw [List.length_drop]; omega
  have ho : ∀ k r, (k, r) ∈ hy4 → HOk (cx (nuL (nu4 line)) (one4 line) 1 laidE laidE_stab) k r := by
    unfold hy4
    exact hc (hokSpt (t := (nthS (spl line) 1)) (isX rfl) (by rw [(qs_yA (by omega)).1, (qs_yA (by omega)).2]; exact denT2 (denX rfl) (denX rfl)) (by omega) (by omega)) <|
     hc (kCat (isX rfl) (isSx (l := [u8 32]) 1 32 rfl) (denX rfl) (by first | rfl | (simp; done)) (by first | omega | (simp <;> omega))) <|
     hc (kCat (isX rfl) (isX rfl) (denX rfl) (by first | rfl | (simp; done)) (by first | omega | (simp <;> omega))) <|
     hc (kCat (isX rfl) (isSx (l := [u8 32, u8 72, u8 84, u8 84, u8 80, u8 47, u8 49, u8 46]) 8 3328493621662205984 rfl) (denX rfl) (by first | rfl | (simp; done)) (by first | omega | (simp <;> omega))) <|
     hc (kCat (isX rfl) (isSx (l := [u8 48]) 1 48 rfl) (denX rfl) (by first | rfl | (simp; done)) (by first | omega | (simp <;> omega))) <|
     hc (kEqS (isX rfl) (isX rfl) (decide_eq_true (by have hj := spl_join h3; rw [(by assumption : (nthS (spl line) 2) = lV0)] at hj; simpa using hj))) <|
     hc (kCat (isX rfl) (isSx (l := [u8 63]) 1 63 rfl) (denX rfl) (by first | rfl | (simp; done)) (by first | omega | (simp <;> omega))) <|
     hc (kCat (isX rfl) (isX rfl) (denX rfl) (by first | rfl | (simp; done)) (by first | omega | (simp <;> omega))) <|
     hc (kEqS (isX rfl) (isX rfl) (decide_eq_true (by have hj := drop_u8 (t := []) (nthS (spl line) 1) (c := 63) (by omega); simpa using hj))) <|
     hnil
  exact runP (tb := tab4) (AllOk.lp2 ((tabkOk (nuL (nu4 line)) (one4 line)).hyps ho) (by omega) fi6_at fi6_body (lfCons (.inr ⟨⟨rfl, rfl⟩, cfA6, cfParse_0 (l := lf25) (h := lh25) (q := (0, .tu [.ag [.x 1, .x 2, .i .i64 (.ofNat 0), .nils, .s 0 0], .ni])) line (by omega) (by assumption) (by assumption) rfl rfl (by kernel_rfl) (th0 := [(0, .x 0)]) (sg0 := []) (thXv (v := St' line) rfl rfl (thNil)) (by kernel_rfl) (thx := [(1, .x 0), (2, .x 1)]) (thXv (v := St' (nthS (spl line) 0)) rfl rfl (thXv (v := St' (nthS (spl line) 1)) rfl rfl (thNil))) (by kernel_rfl)⟩) lfNil)) rfl (get_lps2 (by omega) (by omega) fi4_at) fiB4 (fun e => run4 e ) (args := [St' line]) (by simp only [RelL, Rel]; exact ⟨_, _, rfl, rfl, rfl⟩) w hl
end Go.Proofs.YtalblkipoopdgaaDoor.startBack
