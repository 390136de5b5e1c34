/- A part of the proof: an interpreter of the model's own code on partly known states, and that what it answers is what the program answers. No condition of its own. -/
import Derived.Test.YtgimfcnobfelbaaL1LaneGrammarQ
set_option maxRecDepth 100000
set_option linter.unusedVariables false
set_option linter.unusedSimpArgs false
set_option maxHeartbeats 4000000
namespace Go.Proofs.Ytgimfcnobfelbaa.laneGrammar
open Go Go.AX Go.Proofs Go.Proofs.Ytgimfcnobfelbaa
def hy0 : LK := [(.len (.x 0), .x 1),
  (.bin .gtr (.x 1) (.i .i64 (.ofNat 2000)), .b false),
  (.bin .gtr (.x 1) (.i .i64 (.ofNat 512)), .b false),
  (.bin .neq (.x 0) (.s 0 0), .b false),
  (.bin .gtr (.x 1) (.i .i64 (.ofNat 0)), .b false)]
theorem run0 : Go.AX.okB (call (tbl hy0) 9000 3 [.x 0, .nils] ⟨H0 , 1, 0, 0⟩) = true := by kernel_rfl
def nu0 (body : LB) : List Value := [St' body,
  .int .i64 ((body.length : Int))]
theorem one0 (body : LB) : ∀ j, j < 1000000 → (nuL (nu0 body) j).oneCell' = true := fun j _ => nuL_one (l := nu0 body) rfl j
theorem path0 (body : LB) (b0 : body.length ≤ 9223372036854775807) (h0 : ¬ (2000 < (body.length : Int))) (h1 : ¬ (512 < (body.length : Int))) (h2 : (body.length : Int) = 0) (w : World) (hl : laidE w) : CwR 3 #[St' body, .slice none 0 0] w (.bool true) := by
  have ho : ∀ k r, (k, r) ∈ hy0 → HOk (cx (nuL (nu0 body)) (one0 body) 0 laidE laidE_stab) k r := by
    unfold hy0
    exact hc (lnV rfl rfl (by omega)) <|
     hc (gtcF rfl (by omega)) <|
     hc (gtcF rfl (by omega)) <|
     hc (kNeS (isX rfl) (isSx (l := ([] : LB)) 0 0 rfl) (bnF (nilT (by omega)))) <|
     hc (gtcF rfl (by omega)) <|
     hnil
  obtain ⟨fi, hfi, hb⟩ := fiE
  exact runP (tb := (tbl hy0)) ((tabkOk (nuL (nu0 body)) (one0 body)).hyps ho) rfl hfi hb (run0 ) (args := [St' body, .slice none 0 0]) (by simp only [RelL, Rel]; exact ⟨_, _, rfl, rfl, ⟨_, _, rfl, rfl, rfl⟩⟩) w hl
def hy1 : LK := [(.len (.x 0), .x 1),
  (.bin .gtr (.x 1) (.i .i64 (.ofNat 2000)), .b false),
  (.bin .gtr (.x 1) (.i .i64 (.ofNat 512)), .b false),
  (.bin .neq (.x 0) (.s 0 0), .b true),
  (.mm true (.x 1) (.i .i64 (.ofNat 0)), .x 2),
  (.un .neg (.x 2), .x 3),
  (.bin .and (.x 3) (.i .i64 (.ofNat 7)), .x 4),
  (.bin .gtr (.x 1) (.i .i64 (.ofNat 0)), .b true),
  (.mm false (.i .i64 (.ofNat 512)) (.x 1), .x 5),
  (.sub (.x 0) none (some (.x 5)), .x 0),
  (.mm true (.i .i64 (.ofNat 0)) (.x 5), .x 6),
  (.bin .rem (.x 6) (.i .i64 (.ofNat 8)), .x 7),
  (.bin .sub (.i .i64 (.ofNat 8)) (.x 7), .x 8),
  (.bin .rem (.x 8) (.i .i64 (.ofNat 8)), .x 4),
  (.sub (.x 0) (some (.x 5)) none, .x 9),
  (.len (.x 9), .i .i64 (.ofNat 0))]
theorem run1 : Go.AX.okB (call (tbl hy1) 9000 3 [.x 0, .nils] ⟨H0 , 1, 0, 0⟩) = true := by kernel_rfl
def nu1 (body : LB) : List Value := [St' body,
  .int .i64 ((body.length : Int)),
  .int .i64 ((body.length : Int)),
  .int .i64 (-((body.length : Int))),
  .int .i64 ((-((body.length : Int))) % 8),
  .int .i64 ((body.length : Int)),
  .int .i64 ((body.length : Int)),
  .int .i64 ((body.length : Int) % 8),
  .int .i64 (8 - ((body.length : Int) % 8)),
  St' ([] : LB)]
theorem one1 (body : LB) : ∀ j, j < 1000000 → (nuL (nu1 body) j).oneCell' = true := fun j _ => nuL_one (l := nu1 body) rfl j
theorem path1 (body : LB) (b0 : body.length ≤ 9223372036854775807) (h0 : ¬ (2000 < (body.length : Int))) (h1 : ¬ (512 < (body.length : Int))) (h2 : ¬ ((body.length : Int) = 0)) (w : World) (hl : laidE w) : CwR 3 #[St' body, .slice none 0 0] w (.bool true) := by
  have ho : ∀ k r, (k, r) ∈ hy1 → HOk (cx (nuL (nu1 body)) (one1 body) 0 laidE laidE_stab) k r := by
    unfold hy1
    exact hc (lnV rfl rfl (by omega)) <|
     hc (gtcF rfl (by omega)) <|
     hc (gtcF rfl (by omega)) <|
     hc (kNeS (isX rfl) (isSx (l := ([] : LB)) 0 0 rfl) (bnT (nilF (by omega)))) <|
     hc (kMax (isX rfl) (isZ (m := 0) rfl) (denX rfl) (by omega)) <|
     hc (kNeg (isX rfl) (denX rfl) (by omega) (fI64 (by omega) (by omega))) <|
     hc (kAndG 3 8 rfl (by decide) (isX rfl) (isZ (m := 7) rfl) (denX rfl) (fI64 (by omega) (by omega)) rfl rfl (fI64 (by omega) (by omega))) <|
     hc (gtcT rfl (by omega)) <|
     hc (kMin (isZ (m := 512) rfl) (isX rfl) (denX rfl) (by omega)) <|
     hc (kCut (isX rfl) (.inl ⟨rfl, rfl⟩) (.inr ⟨_, _, rfl, (isX rfl)⟩) (p := []) (m := body) (q := []) (by simp) rfl (by simp <;> omega) (denX rfl)) <|
     hc (kMax (isZ (m := 0) rfl) (isX rfl) (denX rfl) (by omega)) <|
     hc (kRem (isX rfl) (isZ (m := 8) rfl) (denX rfl) (by omega) (by omega) rfl) <|
     hc (kSub (isZ (m := 8) rfl) (isX rfl) (denX rfl) (by omega) (fI64 (by omega) (by omega))) <|
     hc (kRem (isX rfl) (isZ (m := 8) rfl) (denX rfl) (by omega) (by omega) (by omega)) <|
     hc (kCut (isX rfl) (.inr ⟨_, _, rfl, (isX rfl)⟩) (.inl ⟨rfl, rfl⟩) (p := body) (m := []) (q := []) (by simp) (by first | rfl | omega) (by simp) (denX rfl)) <|
     hc (kLenE (isX rfl) (denZ (m := 0) rfl) rfl) <|
     hnil
  obtain ⟨fi, hfi, hb⟩ := fiE
  exact runP (tb := (tbl hy1)) ((tabkOk (nuL (nu1 body)) (one1 body)).hyps ho) rfl hfi hb (run1 ) (args := [St' body, .slice none 0 0]) (by simp only [RelL, Rel]; exact ⟨_, _, rfl, rfl, ⟨_, _, rfl, rfl, rfl⟩⟩) w hl
def hy2 : LK := [(.len (.x 0), .x 1),
  (.bin .gtr (.x 1) (.i .i64 (.ofNat 2000)), .b false),
  (.bin .gtr (.x 1) (.i .i64 (.ofNat 512)), .b true),
  (.sub (.x 0) none (some (.i .i64 (.ofNat 512))), .x 2),
  (.len (.x 2), .i .i64 (.ofNat 512)),
  (.sub (.x 0) (some (.i .i64 (.ofNat 512))) none, .x 3),
  (.len (.x 3), .x 4),
  (.bin .gtr (.x 4) (.i .i64 (.ofNat 512)), .b false),
  (.bin .neq (.x 3) (.s 0 0), .b true),
  (.mm true (.x 4) (.i .i64 (.ofNat 0)), .x 5),
  (.un .neg (.x 5), .x 6),
  (.bin .and (.x 6) (.i .i64 (.ofNat 7)), .x 7),
  (.bin .gtr (.x 1) (.i .i64 (.ofNat 0)), .b true),
  (.mm false (.i .i64 (.ofNat 512)) (.x 1), .i .i64 (.ofNat 512)),
  (.bin .gtr (.x 4) (.i .i64 (.ofNat 0)), .b true),
  (.mm false (.i .i64 (.ofNat 512)) (.x 4), .x 8),
  (.sub (.x 3) none (some (.x 8)), .x 3),
  (.mm true (.i .i64 (.ofNat 0)) (.x 8), .x 9),
  (.bin .rem (.x 9) (.i .i64 (.ofNat 8)), .x 10),
  (.bin .sub (.i .i64 (.ofNat 8)) (.x 10), .x 11),
  (.bin .rem (.x 11) (.i .i64 (.ofNat 8)), .x 7),
  (.sub (.x 3) (some (.x 8)) none, .x 12),
  (.len (.x 12), .i .i64 (.ofNat 0))]
theorem run2 : Go.AX.okB (call (tbl hy2) 9000 3 [.x 0, .nils] ⟨H0 , 1, 0, 0⟩) = true := by kernel_rfl
def nu2 (body : LB) : List Value := [St' body,
  .int .i64 ((body.length : Int)),
  St' (List.take (Int.toNat (512 - (0))) (List.drop (Int.toNat (0)) body)),
  St' (List.take (Int.toNat ((body.length : Int) - (512))) (List.drop (Int.toNat (512)) body)),
  .int .i64 ((body.length : Int) - 512),
  .int .i64 ((body.length : Int) - 512),
  .int .i64 (512 - (body.length : Int)),
  .int .i64 ((512 - (body.length : Int)) % 8),
  .int .i64 ((body.length : Int) - 512),
  .int .i64 ((body.length : Int) - 512),
  .int .i64 (((body.length : Int) - 512) % 8),
  .int .i64 (8 - (((body.length : Int) - 512) % 8)),
  St' ([] : LB)]
theorem one2 (body : LB) : ∀ j, j < 1000000 → (nuL (nu2 body) j).oneCell' = true := fun j _ => nuL_one (l := nu2 body) rfl j
theorem path2 (body : LB) (b0 : body.length ≤ 9223372036854775807) (h0 : ¬ (2000 < (body.length : Int))) (h1 : 512 < (body.length : Int)) (h2 : ¬ (512 < (body.length : Int) - 512)) (w : World) (hl : laidE w) : CwR 3 #[St' body, .slice none 0 0] w (.bool true) := by
  have := lenMd (l := body) (P := 0) (Q := 512) (by omega)
  have := lenMd (l := body) (P := 512) (Q := (body.length : Int)) (by omega)
  have ho : ∀ k r, (k, r) ∈ hy2 → HOk (cx (nuL (nu2 body)) (one2 body) 0 laidE laidE_stab) k r := by
    unfold hy2
    exact hc (lnV rfl rfl (by omega)) <|
     hc (gtcF rfl (by omega)) <|
     hc (gtcT rfl (by omega)) <|
     hc (kMid (P := 0) (Q := 512) (isX rfl) (.inl ⟨rfl, rfl⟩) (.inr ⟨_, _, rfl, (isZ (m := 512) rfl)⟩) (by omega) (by omega) (by omega) (denX rfl)) <|
     hc (kLenE (isX rfl) (denZ (m := 512) rfl) (by omega)) <|
     hc (kMid (P := 512) (Q := (body.length : Int)) (isX rfl) (.inr ⟨_, _, rfl, (isZ (m := 512) rfl)⟩) (.inl ⟨rfl, by first | omega | (simp <;> omega)⟩) (by omega) (by omega) (by omega) (denX rfl)) <|
     hc (lnV rfl rfl (by omega)) <|
     hc (gtcF rfl (by omega)) <|
     hc (kNeS (isX rfl) (isSx (l := ([] : LB)) 0 0 rfl) (bnT (nilF (by omega)))) <|
     hc (kMax (isX rfl) (isZ (m := 0) rfl) (denX rfl) (by omega)) <|
     hc (kNeg (isX rfl) (denX rfl) (by omega) (fI64 (by omega) (by omega))) <|
     hc (kAndG 3 8 rfl (by decide) (isX rfl) (isZ (m := 7) rfl) (denX rfl) (fI64 (by omega) (by omega)) rfl rfl (fI64 (by omega) (by omega))) <|
     hc (gtcT rfl (by omega)) <|
     hc (kMin (isZ (m := 512) rfl) (isX rfl) (denZ (m := 512) rfl) (by omega)) <|
     hc (gtcT rfl (by omega)) <|
     hc (kMin (isZ (m := 512) rfl) (isX rfl) (denX rfl) (by omega)) <|
     hc (kCut (isX rfl) (.inl ⟨rfl, rfl⟩) (.inr ⟨_, _, rfl, (isX rfl)⟩) (p := []) (m := (List.take (Int.toNat ((body.length : Int) - (512))) (List.drop (Int.toNat (512)) body))) (q := []) (by simp) rfl (by simp <;> omega) (denX rfl)) <|
     hc (kMax (isZ (m := 0) rfl) (isX rfl) (denX rfl) (by omega)) <|
     hc (kRem (isX rfl) (isZ (m := 8) rfl) (denX rfl) (by omega) (by omega) rfl) <|
     hc (kSub (isZ (m := 8) rfl) (isX rfl) (denX rfl) (by omega) (fI64 (by omega) (by omega))) <|
     hc (kRem (isX rfl) (isZ (m := 8) rfl) (denX rfl) (by omega) (by omega) (by omega)) <|
     hc (kCut (isX rfl) (.inr ⟨_, _, rfl, (isX rfl)⟩) (.inl ⟨rfl, rfl⟩) (p := (List.take (Int.toNat ((body.length : Int) - (512))) (List.drop (Int.toNat (512)) body))) (m := []) (q := []) (by simp) (by first | rfl | omega) (by simp) (denX rfl)) <|
     hc (kLenE (isX rfl) (denZ (m := 0) rfl) rfl) <|
     hnil
  obtain ⟨fi, hfi, hb⟩ := fiE
  exact runP (tb := (tbl hy2)) ((tabkOk (nuL (nu2 body)) (one2 body)).hyps ho) rfl hfi hb (run2 ) (args := [St' body, .slice none 0 0]) (by simp only [RelL, Rel]; exact ⟨_, _, rfl, rfl, ⟨_, _, rfl, rfl, rfl⟩⟩) w hl
end Go.Proofs.Ytgimfcnobfelbaa.laneGrammar
