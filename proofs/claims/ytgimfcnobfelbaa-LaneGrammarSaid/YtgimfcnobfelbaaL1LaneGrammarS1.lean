/- A part of the proof: an interpreter of the model's own code on partly known states, and that what it answers is what the program answers. No condition of its own. -/
import Derived.Test.YtgimfcnobfelbaaL1LaneGrammarQ
set_option maxRecDepth 100000
set_option linter.unusedVariables false
set_option linter.unusedSimpArgs false
set_option maxHeartbeats 4000000
namespace Go.Proofs.Ytgimfcnobfelbaa.laneGrammar
open Go Go.AX Go.Proofs Go.Proofs.Ytgimfcnobfelbaa
def hy3 : LK := [(.len (.x 0), .x 1),
  (.bin .gtr (.x 1) (.i .i64 (.ofNat 2000)), .b false),
  (.bin .gtr (.x 1) (.i .i64 (.ofNat 512)), .b true),
  (.sub (.x 0) none (some (.i .i64 (.ofNat 512))), .x 2),
  (.len (.x 2), .i .i64 (.ofNat 512)),
  (.sub (.x 0) (some (.i .i64 (.ofNat 512))) none, .x 3),
  (.len (.x 3), .x 4),
  (.bin .gtr (.x 4) (.i .i64 (.ofNat 512)), .b true),
  (.sub (.x 3) none (some (.i .i64 (.ofNat 512))), .x 5),
  (.len (.x 5), .i .i64 (.ofNat 512)),
  (.sub (.x 3) (some (.i .i64 (.ofNat 512))) none, .x 6),
  (.len (.x 6), .x 7),
  (.bin .gtr (.x 7) (.i .i64 (.ofNat 512)), .b false),
  (.bin .neq (.x 6) (.s 0 0), .b true),
  (.mm true (.x 7) (.i .i64 (.ofNat 0)), .x 8),
  (.un .neg (.x 8), .x 9),
  (.bin .and (.x 9) (.i .i64 (.ofNat 7)), .x 10),
  (.bin .gtr (.x 1) (.i .i64 (.ofNat 0)), .b true),
  (.mm false (.i .i64 (.ofNat 512)) (.x 1), .i .i64 (.ofNat 512)),
  (.bin .gtr (.x 4) (.i .i64 (.ofNat 0)), .b true),
  (.mm false (.i .i64 (.ofNat 512)) (.x 4), .i .i64 (.ofNat 512)),
  (.bin .gtr (.x 7) (.i .i64 (.ofNat 0)), .b true),
  (.mm false (.i .i64 (.ofNat 512)) (.x 7), .x 11),
  (.sub (.x 6) none (some (.x 11)), .x 6),
  (.mm true (.i .i64 (.ofNat 0)) (.x 11), .x 12),
  (.bin .rem (.x 12) (.i .i64 (.ofNat 8)), .x 13),
  (.bin .sub (.i .i64 (.ofNat 8)) (.x 13), .x 14),
  (.bin .rem (.x 14) (.i .i64 (.ofNat 8)), .x 10),
  (.sub (.x 6) (some (.x 11)) none, .x 15),
  (.len (.x 15), .i .i64 (.ofNat 0))]
theorem run3 : Go.AX.okB (call (tbl hy3) 9000 3 [.x 0, .nils] ⟨H0 , 1, 0, 0⟩) = true := by kernel_rfl
def nu3 (body : LB) : List Value := [St' body,
  .int .i64 ((body.length : Int)),
  St' (List.take (Int.toNat (512 - (0))) (List.drop (Int.toNat (0)) body)),
  St' (List.take (Int.toNat ((body.length : Int) - (512))) (List.drop (Int.toNat (512)) body)),
  .int .i64 ((body.length : Int) - 512),
  St' (List.take (Int.toNat (512 - (0))) (List.drop (Int.toNat (0)) (List.take (Int.toNat ((body.length : Int) - (512))) (List.drop (Int.toNat (512)) body)))),
  St' (List.take (Int.toNat ((body.length : Int) - 512 - (512))) (List.drop (Int.toNat (512)) (List.take (Int.toNat ((body.length : Int) - (512))) (List.drop (Int.toNat (512)) body)))),
  .int .i64 ((body.length : Int) - 1024),
  .int .i64 ((body.length : Int) - 1024),
  .int .i64 (1024 - (body.length : Int)),
  .int .i64 ((1024 - (body.length : Int)) % 8),
  .int .i64 ((body.length : Int) - 1024),
  .int .i64 ((body.length : Int) - 1024),
  .int .i64 (((body.length : Int) - 1024) % 8),
  .int .i64 (8 - (((body.length : Int) - 1024) % 8)),
  St' ([] : LB)]
theorem one3 (body : LB) : ∀ j, j < 1000000 → (nuL (nu3 body) j).oneCell' = true := fun j _ => nuL_one (l := nu3 body) rfl j
theorem path3 (body : LB) (b0 : body.length ≤ 9223372036854775807) (h0 : ¬ (2000 < (body.length : Int))) (h1 : 512 < (body.length : Int)) (h2 : 512 < (body.length : Int) - 512) (h3 : ¬ (512 < (body.length : Int) - 1024)) (w : World) (hl : laidE w) : CwR 3 #[St' body, .slice none 0 0] w (.bool true) := by
  have := lenMd (l := body) (P := 0) (Q := 512) (by omega)
  have := lenMd (l := body) (P := 512) (Q := (body.length : Int)) (by omega)
  have := lenMd (l := (List.take (Int.toNat ((body.length : Int) - (512))) (List.drop (Int.toNat (512)) body))) (P := 0) (Q := 512) (by omega)
  have := lenMd (l := (List.take (Int.toNat ((body.length : Int) - (512))) (List.drop (Int.toNat (512)) body))) (P := 512) (Q := (body.length : Int) - 512) (by omega)
  have ho : ∀ k r, (k, r) ∈ hy3 → HOk (cx (nuL (nu3 body)) (one3 body) 0 laidE laidE_stab) k r := by
    unfold hy3
    exact hc (lnV rfl rfl (by omega)) <|
     hc (gtcF rfl (by omega)) <|
     hc (gtcT rfl (by omega)) <|
     hc (kMid (P := 0) (Q := 512) (isX rfl) (.inl ⟨rfl, rfl⟩) (.inr ⟨_, _, rfl, (isZ (m := 512) rfl)⟩) (by omega) (by omega) (by omega) (denX rfl)) <|
     hc (kLenE (isX rfl) (denZ (m := 512) rfl) (by omega)) <|
     hc (kMid (P := 512) (Q := (body.length : Int)) (isX rfl) (.inr ⟨_, _, rfl, (isZ (m := 512) rfl)⟩) (.inl ⟨rfl, by first | omega | (simp <;> omega)⟩) (by omega) (by omega) (by omega) (denX rfl)) <|
     hc (lnV rfl rfl (by omega)) <|
     hc (gtcT rfl (by omega)) <|
     hc (kMid (P := 0) (Q := 512) (isX rfl) (.inl ⟨rfl, rfl⟩) (.inr ⟨_, _, rfl, (isZ (m := 512) rfl)⟩) (by omega) (by omega) (by omega) (denX rfl)) <|
     hc (kLenE (isX rfl) (denZ (m := 512) rfl) (by omega)) <|
     hc (kMid (P := 512) (Q := (body.length : Int) - 512) (isX rfl) (.inr ⟨_, _, rfl, (isZ (m := 512) rfl)⟩) (.inl ⟨rfl, by first | omega | (simp <;> omega)⟩) (by omega) (by omega) (by omega) (denX rfl)) <|
     hc (lnV rfl rfl (by omega)) <|
     hc (gtcF rfl (by omega)) <|
     hc (kNeS (isX rfl) (isSx (l := ([] : LB)) 0 0 rfl) (bnT (nilF (by omega)))) <|
     hc (kMax (isX rfl) (isZ (m := 0) rfl) (denX rfl) (by omega)) <|
     hc (kNeg (isX rfl) (denX rfl) (by omega) (fI64 (by omega) (by omega))) <|
     hc (kAndG 3 8 rfl (by decide) (isX rfl) (isZ (m := 7) rfl) (denX rfl) (fI64 (by omega) (by omega)) rfl rfl (fI64 (by omega) (by omega))) <|
     hc (gtcT rfl (by omega)) <|
     hc (kMin (isZ (m := 512) rfl) (isX rfl) (denZ (m := 512) rfl) (by omega)) <|
     hc (gtcT rfl (by omega)) <|
     hc (kMin (isZ (m := 512) rfl) (isX rfl) (denZ (m := 512) rfl) (by omega)) <|
     hc (gtcT rfl (by omega)) <|
     hc (kMin (isZ (m := 512) rfl) (isX rfl) (denX rfl) (by omega)) <|
     hc (kCut (isX rfl) (.inl ⟨rfl, rfl⟩) (.inr ⟨_, _, rfl, (isX rfl)⟩) (p := []) (m := (List.take (Int.toNat ((body.length : Int) - 512 - (512))) (List.drop (Int.toNat (512)) (List.take (Int.toNat ((body.length : Int) - (512))) (List.drop (Int.toNat (512)) body))))) (q := []) (by simp) rfl (by simp <;> omega) (denX rfl)) <|
     hc (kMax (isZ (m := 0) rfl) (isX rfl) (denX rfl) (by omega)) <|
     hc (kRem (isX rfl) (isZ (m := 8) rfl) (denX rfl) (by omega) (by omega) rfl) <|
     hc (kSub (isZ (m := 8) rfl) (isX rfl) (denX rfl) (by omega) (fI64 (by omega) (by omega))) <|
     hc (kRem (isX rfl) (isZ (m := 8) rfl) (denX rfl) (by omega) (by omega) (by omega)) <|
     hc (kCut (isX rfl) (.inr ⟨_, _, rfl, (isX rfl)⟩) (.inl ⟨rfl, rfl⟩) (p := (List.take (Int.toNat ((body.length : Int) - 512 - (512))) (List.drop (Int.toNat (512)) (List.take (Int.toNat ((body.length : Int) - (512))) (List.drop (Int.toNat (512)) body))))) (m := []) (q := []) (by simp) (by first | rfl | omega) (by simp) (denX rfl)) <|
     hc (kLenE (isX rfl) (denZ (m := 0) rfl) rfl) <|
     hnil
  obtain ⟨fi, hfi, hb⟩ := fiE
  exact runP (tb := (tbl hy3)) ((tabkOk (nuL (nu3 body)) (one3 body)).hyps ho) rfl hfi hb (run3 ) (args := [St' body, .slice none 0 0]) (by simp only [RelL, Rel]; exact ⟨_, _, rfl, rfl, ⟨_, _, rfl, rfl, rfl⟩⟩) w hl
def hy4 : LK := [(.len (.x 0), .x 1),
  (.bin .gtr (.x 1) (.i .i64 (.ofNat 2000)), .b false),
  (.bin .gtr (.x 1) (.i .i64 (.ofNat 512)), .b true),
  (.sub (.x 0) none (some (.i .i64 (.ofNat 512))), .x 2),
  (.len (.x 2), .i .i64 (.ofNat 512)),
  (.sub (.x 0) (some (.i .i64 (.ofNat 512))) none, .x 3),
  (.len (.x 3), .x 4),
  (.bin .gtr (.x 4) (.i .i64 (.ofNat 512)), .b true),
  (.sub (.x 3) none (some (.i .i64 (.ofNat 512))), .x 5),
  (.len (.x 5), .i .i64 (.ofNat 512)),
  (.sub (.x 3) (some (.i .i64 (.ofNat 512))) none, .x 6),
  (.len (.x 6), .x 7),
  (.bin .gtr (.x 7) (.i .i64 (.ofNat 512)), .b true),
  (.sub (.x 6) none (some (.i .i64 (.ofNat 512))), .x 8),
  (.len (.x 8), .i .i64 (.ofNat 512)),
  (.sub (.x 6) (some (.i .i64 (.ofNat 512))) none, .x 9),
  (.len (.x 9), .x 10),
  (.bin .gtr (.x 10) (.i .i64 (.ofNat 512)), .b false),
  (.bin .neq (.x 9) (.s 0 0), .b true),
  (.mm true (.x 10) (.i .i64 (.ofNat 0)), .x 11),
  (.un .neg (.x 11), .x 12),
  (.bin .and (.x 12) (.i .i64 (.ofNat 7)), .x 13),
  (.bin .gtr (.x 1) (.i .i64 (.ofNat 0)), .b true),
  (.mm false (.i .i64 (.ofNat 512)) (.x 1), .i .i64 (.ofNat 512)),
  (.bin .gtr (.x 4) (.i .i64 (.ofNat 0)), .b true),
  (.mm false (.i .i64 (.ofNat 512)) (.x 4), .i .i64 (.ofNat 512)),
  (.bin .gtr (.x 7) (.i .i64 (.ofNat 0)), .b true),
  (.mm false (.i .i64 (.ofNat 512)) (.x 7), .i .i64 (.ofNat 512)),
  (.bin .gtr (.x 10) (.i .i64 (.ofNat 0)), .b true),
  (.mm false (.i .i64 (.ofNat 512)) (.x 10), .x 14),
  (.sub (.x 9) none (some (.x 14)), .x 9),
  (.mm true (.i .i64 (.ofNat 0)) (.x 14), .x 15),
  (.bin .rem (.x 15) (.i .i64 (.ofNat 8)), .x 16),
  (.bin .sub (.i .i64 (.ofNat 8)) (.x 16), .x 17),
  (.bin .rem (.x 17) (.i .i64 (.ofNat 8)), .x 13),
  (.sub (.x 9) (some (.x 14)) none, .x 18),
  (.len (.x 18), .i .i64 (.ofNat 0))]
theorem run4 : Go.AX.okB (call (tbl hy4) 9000 3 [.x 0, .nils] ⟨H0 , 1, 0, 0⟩) = true := by kernel_rfl
def nu4 (body : LB) : List Value := [St' body,
  .int .i64 ((body.length : Int)),
  St' (List.take (Int.toNat (512 - (0))) (List.drop (Int.toNat (0)) body)),
  St' (List.take (Int.toNat ((body.length : Int) - (512))) (List.drop (Int.toNat (512)) body)),
  .int .i64 ((body.length : Int) - 512),
  St' (List.take (Int.toNat (512 - (0))) (List.drop (Int.toNat (0)) (List.take (Int.toNat ((body.length : Int) - (512))) (List.drop (Int.toNat (512)) body)))),
  St' (List.take (Int.toNat ((body.length : Int) - 512 - (512))) (List.drop (Int.toNat (512)) (List.take (Int.toNat ((body.length : Int) - (512))) (List.drop (Int.toNat (512)) body)))),
  .int .i64 ((body.length : Int) - 1024),
  St' (List.take (Int.toNat (512 - (0))) (List.drop (Int.toNat (0)) (List.take (Int.toNat ((body.length : Int) - 512 - (512))) (List.drop (Int.toNat (512)) (List.take (Int.toNat ((body.length : Int) - (512))) (List.drop (Int.toNat (512)) body)))))),
  St' (List.take (Int.toNat ((body.length : Int) - 1024 - (512))) (List.drop (Int.toNat (512)) (List.take (Int.toNat ((body.length : Int) - 512 - (512))) (List.drop (Int.toNat (512)) (List.take (Int.toNat ((body.length : Int) - (512))) (List.drop (Int.toNat (512)) body)))))),
  .int .i64 ((body.length : Int) - 1536),
  .int .i64 ((body.length : Int) - 1536),
  .int .i64 (1536 - (body.length : Int)),
  .int .i64 ((1536 - (body.length : Int)) % 8),
  .int .i64 ((body.length : Int) - 1536),
  .int .i64 ((body.length : Int) - 1536),
  .int .i64 (((body.length : Int) - 1536) % 8),
  .int .i64 (8 - (((body.length : Int) - 1536) % 8)),
  St' ([] : LB)]
theorem one4 (body : LB) : ∀ j, j < 1000000 → (nuL (nu4 body) j).oneCell' = true := fun j _ => nuL_one (l := nu4 body) rfl j
theorem path4 (body : LB) (b0 : body.length ≤ 9223372036854775807) (h0 : ¬ (2000 < (body.length : Int))) (h1 : 512 < (body.length : Int)) (h2 : 512 < (body.length : Int) - 512) (h3 : 512 < (body.length : Int) - 1024) (w : World) (hl : laidE w) : CwR 3 #[St' body, .slice none 0 0] w (.bool true) := by
  have := lenMd (l := body) (P := 0) (Q := 512) (by omega)
  have := lenMd (l := body) (P := 512) (Q := (body.length : Int)) (by omega)
  have := lenMd (l := (List.take (Int.toNat ((body.length : Int) - (512))) (List.drop (Int.toNat (512)) body))) (P := 0) (Q := 512) (by omega)
  have := lenMd (l := (List.take (Int.toNat ((body.length : Int) - (512))) (List.drop (Int.toNat (512)) body))) (P := 512) (Q := (body.length : Int) - 512) (by omega)
  have := lenMd (l := (List.take (Int.toNat ((body.length : Int) - 512 - (512))) (List.drop (Int.toNat (512)) (List.take (Int.toNat ((body.length : Int) - (512))) (List.drop (Int.toNat (512)) body))))) (P := 0) (Q := 512) (by omega)
  have := lenMd (l := (List.take (Int.toNat ((body.length : Int) - 512 - (512))) (List.drop (Int.toNat (512)) (List.take (Int.toNat ((body.length : Int) - (512))) (List.drop (Int.toNat (512)) body))))) (P := 512) (Q := (body.length : Int) - 1024) (by omega)
  have ho : ∀ k r, (k, r) ∈ hy4 → HOk (cx (nuL (nu4 body)) (one4 body) 0 laidE laidE_stab) k r := by
    unfold hy4
    exact hc (lnV rfl rfl (by omega)) <|
     hc (gtcF rfl (by omega)) <|
     hc (gtcT rfl (by omega)) <|
     hc (kMid (P := 0) (Q := 512) (isX rfl) (.inl ⟨rfl, rfl⟩) (.inr ⟨_, _, rfl, (isZ (m := 512) rfl)⟩) (by omega) (by omega) (by omega) (denX rfl)) <|
     hc (kLenE (isX rfl) (denZ (m := 512) rfl) (by omega)) <|
     hc (kMid (P := 512) (Q := (body.length : Int)) (isX rfl) (.inr ⟨_, _, rfl, (isZ (m := 512) rfl)⟩) (.inl ⟨rfl, by first | omega | (simp <;> omega)⟩) (by omega) (by omega) (by omega) (denX rfl)) <|
     hc (lnV rfl rfl (by omega)) <|
     hc (gtcT rfl (by omega)) <|
     hc (kMid (P := 0) (Q := 512) (isX rfl) (.inl ⟨rfl, rfl⟩) (.inr ⟨_, _, rfl, (isZ (m := 512) rfl)⟩) (by omega) (by omega) (by omega) (denX rfl)) <|
     hc (kLenE (isX rfl) (denZ (m := 512) rfl) (by omega)) <|
     hc (kMid (P := 512) (Q := (body.length : Int) - 512) (isX rfl) (.inr ⟨_, _, rfl, (isZ (m := 512) rfl)⟩) (.inl ⟨rfl, by first | omega | (simp <;> omega)⟩) (by omega) (by omega) (by omega) (denX rfl)) <|
     hc (lnV rfl rfl (by omega)) <|
     hc (gtcT rfl (by omega)) <|
     hc (kMid (P := 0) (Q := 512) (isX rfl) (.inl ⟨rfl, rfl⟩) (.inr ⟨_, _, rfl, (isZ (m := 512) rfl)⟩) (by omega) (by omega) (by omega) (denX rfl)) <|
     hc (kLenE (isX rfl) (denZ (m := 512) rfl) (by omega)) <|
     hc (kMid (P := 512) (Q := (body.length : Int) - 1024) (isX rfl) (.inr ⟨_, _, rfl, (isZ (m := 512) rfl)⟩) (.inl ⟨rfl, by first | omega | (simp <;> omega)⟩) (by omega) (by omega) (by omega) (denX rfl)) <|
     hc (lnV rfl rfl (by omega)) <|
     hc (gtcF rfl (by omega)) <|
     hc (kNeS (isX rfl) (isSx (l := ([] : LB)) 0 0 rfl) (bnT (nilF (by omega)))) <|
     hc (kMax (isX rfl) (isZ (m := 0) rfl) (denX rfl) (by omega)) <|
     hc (kNeg (isX rfl) (denX rfl) (by omega) (fI64 (by omega) (by omega))) <|
     hc (kAndG 3 8 rfl (by decide) (isX rfl) (isZ (m := 7) rfl) (denX rfl) (fI64 (by omega) (by omega)) rfl rfl (fI64 (by omega) (by omega))) <|
     hc (gtcT rfl (by omega)) <|
     hc (kMin (isZ (m := 512) rfl) (isX rfl) (denZ (m := 512) rfl) (by omega)) <|
     hc (gtcT rfl (by omega)) <|
     hc (kMin (isZ (m := 512) rfl) (isX rfl) (denZ (m := 512) rfl) (by omega)) <|
     hc (gtcT rfl (by omega)) <|
     hc (kMin (isZ (m := 512) rfl) (isX rfl) (denZ (m := 512) rfl) (by omega)) <|
     hc (gtcT rfl (by omega)) <|
     hc (kMin (isZ (m := 512) rfl) (isX rfl) (denX rfl) (by omega)) <|
     hc (kCut (isX rfl) (.inl ⟨rfl, rfl⟩) (.inr ⟨_, _, rfl, (isX rfl)⟩) (p := []) (m := (List.take (Int.toNat ((body.length : Int) - 1024 - (512))) (List.drop (Int.toNat (512)) (List.take (Int.toNat ((body.length : Int) - 512 - (512))) (List.drop (Int.toNat (512)) (List.take (Int.toNat ((body.length : Int) - (512))) (List.drop (Int.toNat (512)) body))))))) (q := []) (by simp) rfl (by simp <;> omega) (denX rfl)) <|
     hc (kMax (isZ (m := 0) rfl) (isX rfl) (denX rfl) (by omega)) <|
     hc (kRem (isX rfl) (isZ (m := 8) rfl) (denX rfl) (by omega) (by omega) rfl) <|
     hc (kSub (isZ (m := 8) rfl) (isX rfl) (denX rfl) (by omega) (fI64 (by omega) (by omega))) <|
     hc (kRem (isX rfl) (isZ (m := 8) rfl) (denX rfl) (by omega) (by omega) (by omega)) <|
     hc (kCut (isX rfl) (.inr ⟨_, _, rfl, (isX rfl)⟩) (.inl ⟨rfl, rfl⟩) (p := (List.take (Int.toNat ((body.length : Int) - 1024 - (512))) (List.drop (Int.toNat (512)) (List.take (Int.toNat ((body.length : Int) - 512 - (512))) (List.drop (Int.toNat (512)) (List.take (Int.toNat ((body.length : Int) - (512))) (List.drop (Int.toNat (512)) body))))))) (m := []) (q := []) (by simp) (by first | rfl | omega) (by simp) (denX rfl)) <|
     hc (kLenE (isX rfl) (denZ (m := 0) rfl) rfl) <|
     hnil
  obtain ⟨fi, hfi, hb⟩ := fiE
  exact runP (tb := (tbl hy4)) ((tabkOk (nuL (nu4 body)) (one4 body)).hyps ho) rfl hfi hb (run4 ) (args := [St' body, .slice none 0 0]) (by simp only [RelL, Rel]; exact ⟨_, _, rfl, rfl, ⟨_, _, rfl, rfl, rfl⟩⟩) w hl
def hy5 : LK := [(.len (.x 0), .x 1),
  (.bin .gtr (.x 1) (.i .i64 (.ofNat 2000)), .b true)]
theorem run5 : Go.AX.okB (call (tbl hy5) 9000 3 [.x 0, .nils] ⟨H0 , 1, 0, 0⟩) = true := by kernel_rfl
def nu5 (body : LB) : List Value := [St' body,
  .int .i64 ((body.length : Int))]
theorem one5 (body : LB) : ∀ j, j < 1000000 → (nuL (nu5 body) j).oneCell' = true := fun j _ => nuL_one (l := nu5 body) rfl j
theorem path5 (body : LB) (b0 : body.length ≤ 9223372036854775807) (h0 : 2000 < (body.length : Int)) (w : World) (hl : laidE w) : CwR 3 #[St' body, .slice none 0 0] w (.bool true) := by
  have ho : ∀ k r, (k, r) ∈ hy5 → HOk (cx (nuL (nu5 body)) (one5 body) 0 laidE laidE_stab) k r := by
    unfold hy5
    exact hc (lnV rfl rfl (by omega)) <|
     hc (gtcT rfl (by omega)) <|
     hnil
  obtain ⟨fi, hfi, hb⟩ := fiE
  exact runP (tb := (tbl hy5)) ((tabkOk (nuL (nu5 body)) (one5 body)).hyps ho) rfl hfi hb (run5 ) (args := [St' body, .slice none 0 0]) (by simp only [RelL, Rel]; exact ⟨_, _, rfl, rfl, ⟨_, _, rfl, rfl, rfl⟩⟩) w hl
end Go.Proofs.Ytgimfcnobfelbaa.laneGrammar
