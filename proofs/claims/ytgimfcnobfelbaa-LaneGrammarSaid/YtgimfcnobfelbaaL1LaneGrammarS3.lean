/- A part of the proof: an interpreter of the model's own code on partly known states, and that what it answers is what the program answers. No condition of its own. -/
import Derived.Test.YtgimfcnobfelbaaL1LaneGrammarQ
set_option maxRecDepth 100000
set_option linter.unusedVariables false
set_option linter.unusedSimpArgs false
set_option maxHeartbeats 4000000
namespace Go.Proofs.Ytgimfcnobfelbaa.laneGrammar
open Go Go.AX Go.Proofs Go.Proofs.Ytgimfcnobfelbaa
def hy9 : LK := [(.len (.x 0), .x 2),
  (.bin .gtr (.x 2) (.i .i64 (.ofNat 2000)), .b false),
  (.slen (.x 1), .i .i64 (.ofNat 0)),
  (.bin .gtr (.x 2) (.i .i64 (.ofNat 512)), .b true),
  (.sub (.x 0) none (some (.i .i64 (.ofNat 512))), .x 3),
  (.len (.x 3), .i .i64 (.ofNat 512)),
  (.sub (.x 0) (some (.i .i64 (.ofNat 512))) none, .x 4),
  (.len (.x 4), .x 5),
  (.bin .gtr (.x 5) (.i .i64 (.ofNat 512)), .b true),
  (.sub (.x 4) none (some (.i .i64 (.ofNat 512))), .x 6),
  (.len (.x 6), .i .i64 (.ofNat 512)),
  (.sub (.x 4) (some (.i .i64 (.ofNat 512))) none, .x 7),
  (.len (.x 7), .x 8),
  (.bin .gtr (.x 8) (.i .i64 (.ofNat 512)), .b false),
  (.bin .neq (.x 7) (.s 0 0), .b true),
  (.mm true (.x 8) (.i .i64 (.ofNat 0)), .x 9),
  (.un .neg (.x 9), .x 10),
  (.bin .and (.x 10) (.i .i64 (.ofNat 7)), .x 11),
  (.bin .gtr (.x 2) (.i .i64 (.ofNat 0)), .b true),
  (.mm false (.i .i64 (.ofNat 512)) (.x 2), .i .i64 (.ofNat 512)),
  (.bin .gtr (.x 5) (.i .i64 (.ofNat 0)), .b true),
  (.mm false (.i .i64 (.ofNat 512)) (.x 5), .i .i64 (.ofNat 512)),
  (.bin .gtr (.x 8) (.i .i64 (.ofNat 0)), .b true),
  (.mm false (.i .i64 (.ofNat 512)) (.x 8), .x 12),
  (.sub (.x 7) none (some (.x 12)), .x 7),
  (.mm true (.i .i64 (.ofNat 0)) (.x 12), .x 13),
  (.bin .rem (.x 13) (.i .i64 (.ofNat 8)), .x 14),
  (.bin .sub (.i .i64 (.ofNat 8)) (.x 14), .x 15),
  (.bin .rem (.x 15) (.i .i64 (.ofNat 8)), .x 11),
  (.sub (.x 7) (some (.x 12)) none, .x 16),
  (.len (.x 16), .i .i64 (.ofNat 0))]
theorem run9 : Go.AX.okB (call (tbl hy9) 9000 3 [.x 0, .x 1] ⟨H0 , 1, 0, 0⟩) = true := by kernel_rfl
def nu9 (body : LB) (ad_z : Addr) : List Value := [St' body,
  .slice (some ad_z) 0 0,
  .int .i64 ((body.length : Int)),
  St' (List.take (Int.toNat (512 - (0))) (List.drop (Int.toNat (0)) body)),
  St' (List.take (Int.toNat ((body.length : Int) - (512))) (List.drop (Int.toNat (512)) body)),
  .int .i64 ((body.length : Int) - 512),
  St' (List.take (Int.toNat (512 - (0))) (List.drop (Int.toNat (0)) (List.take (Int.toNat ((body.length : Int) - (512))) (List.drop (Int.toNat (512)) body)))),
  St' (List.take (Int.toNat ((body.length : Int) - 512 - (512))) (List.drop (Int.toNat (512)) (List.take (Int.toNat ((body.length : Int) - (512))) (List.drop (Int.toNat (512)) body)))),
  .int .i64 ((body.length : Int) - 1024),
  .int .i64 ((body.length : Int) - 1024),
  .int .i64 (1024 - (body.length : Int)),
  .int .i64 ((1024 - (body.length : Int)) % 8),
  .int .i64 ((body.length : Int) - 1024),
  .int .i64 ((body.length : Int) - 1024),
  .int .i64 (((body.length : Int) - 1024) % 8),
  .int .i64 (8 - (((body.length : Int) - 1024) % 8)),
  St' ([] : LB)]
theorem one9 (body : LB) (ad_z : Addr) : ∀ j, j < 1000000 → (nuL (nu9 body ad_z) j).oneCell' = true := fun j _ => nuL_one (l := nu9 body ad_z) rfl j
theorem path9 (body : LB) (ad_z : Addr) (b0 : body.length ≤ 9223372036854775807) (h0 : ¬ (2000 < (body.length : Int))) (h1 : 512 < (body.length : Int)) (h2 : 512 < (body.length : Int) - 512) (h3 : ¬ (512 < (body.length : Int) - 1024)) (w : World) (hl : laidE w) : CwR 3 #[St' body, .slice (some ad_z) 0 0] w (.bool true) := by
  have := lenMd (l := body) (P := 0) (Q := 512) (by omega)
  have := lenMd (l := body) (P := 512) (Q := (body.length : Int)) (by omega)
  have := lenMd (l := (List.take (Int.toNat ((body.length : Int) - (512))) (List.drop (Int.toNat (512)) body))) (P := 0) (Q := 512) (by omega)
  have := lenMd (l := (List.take (Int.toNat ((body.length : Int) - (512))) (List.drop (Int.toNat (512)) body))) (P := 512) (Q := (body.length : Int) - 512) (by omega)
  have ho : ∀ k r, (k, r) ∈ hy9 → HOk (cx (nuL (nu9 body ad_z)) (one9 body ad_z) 0 laidE laidE_stab) k r := by
    unfold hy9
    exact hc (lnV rfl rfl (by omega)) <|
     hc (gtcF rfl (by omega)) <|
     hc (kSlen (isX rfl) (denZ (m := 0) rfl) rfl) <|
     hc (gtcT rfl (by omega)) <|
     hc (kMid (P := 0) (Q := 512) (isX rfl) (.inl ⟨rfl, rfl⟩) (.inr ⟨_, _, rfl, (isZ (m := 512) rfl)⟩) (by omega) (by omega) (by omega) (denX rfl)) <|
     hc (kLenE (isX rfl) (denZ (m := 512) rfl) (by omega)) <|
     hc (kMid (P := 512) (Q := (body.length : Int)) (isX rfl) (.inr ⟨_, _, rfl, (isZ (m := 512) rfl)⟩) (.inl ⟨rfl, by first | omega | (simp <;> omega)⟩) (by omega) (by omega) (by omega) (denX rfl)) <|
     hc (lnV rfl rfl (by omega)) <|
     hc (gtcT rfl (by omega)) <|
     hc (kMid (P := 0) (Q := 512) (isX rfl) (.inl ⟨rfl, rfl⟩) (.inr ⟨_, _, rfl, (isZ (m := 512) rfl)⟩) (by omega) (by omega) (by omega) (denX rfl)) <|
     hc (kLenE (isX rfl) (denZ (m := 512) rfl) (by omega)) <|
     hc (kMid (P := 512) (Q := (body.length : Int) - 512) (isX rfl) (.inr ⟨_, _, rfl, (isZ (m := 512) rfl)⟩) (.inl ⟨rfl, by first | omega | (simp <;> omega)⟩) (by omega) (by omega) (by omega) (denX rfl)) <|
     hc (lnV rfl rfl (by omega)) <|
     hc (gtcF rfl (by omega)) <|
     hc (kNeS (isX rfl) (isSx (l := ([] : LB)) 0 0 rfl) (bnT (nilF (by omega)))) <|
     hc (kMax (isX rfl) (isZ (m := 0) rfl) (denX rfl) (by omega)) <|
     hc (kNeg (isX rfl) (denX rfl) (by omega) (fI64 (by omega) (by omega))) <|
     hc (kAndG 3 8 rfl (by decide) (isX rfl) (isZ (m := 7) rfl) (denX rfl) (fI64 (by omega) (by omega)) rfl rfl (fI64 (by omega) (by omega))) <|
     hc (gtcT rfl (by omega)) <|
     hc (kMin (isZ (m := 512) rfl) (isX rfl) (denZ (m := 512) rfl) (by omega)) <|
     hc (gtcT rfl (by omega)) <|
     hc (kMin (isZ (m := 512) rfl) (isX rfl) (denZ (m := 512) rfl) (by omega)) <|
     hc (gtcT rfl (by omega)) <|
     hc (kMin (isZ (m := 512) rfl) (isX rfl) (denX rfl) (by omega)) <|
     hc (kCut (isX rfl) (.inl ⟨rfl, rfl⟩) (.inr ⟨_, _, rfl, (isX rfl)⟩) (p := []) (m := (List.take (Int.toNat ((body.length : Int) - 512 - (512))) (List.drop (Int.toNat (512)) (List.take (Int.toNat ((body.length : Int) - (512))) (List.drop (Int.toNat (512)) body))))) (q := []) (by simp) rfl (by simp <;> omega) (denX rfl)) <|
     hc (kMax (isZ (m := 0) rfl) (isX rfl) (denX rfl) (by omega)) <|
     hc (kRem (isX rfl) (isZ (m := 8) rfl) (denX rfl) (by omega) (by omega) rfl) <|
     hc (kSub (isZ (m := 8) rfl) (isX rfl) (denX rfl) (by omega) (fI64 (by omega) (by omega))) <|
     hc (kRem (isX rfl) (isZ (m := 8) rfl) (denX rfl) (by omega) (by omega) (by omega)) <|
     hc (kCut (isX rfl) (.inr ⟨_, _, rfl, (isX rfl)⟩) (.inl ⟨rfl, rfl⟩) (p := (List.take (Int.toNat ((body.length : Int) - 512 - (512))) (List.drop (Int.toNat (512)) (List.take (Int.toNat ((body.length : Int) - (512))) (List.drop (Int.toNat (512)) body))))) (m := []) (q := []) (by simp) (by first | rfl | omega) (by simp) (denX rfl)) <|
     hc (kLenE (isX rfl) (denZ (m := 0) rfl) rfl) <|
     hnil
  obtain ⟨fi, hfi, hb⟩ := fiE
  exact runP (tb := (tbl hy9)) ((tabkOk (nuL (nu9 body ad_z)) (one9 body ad_z)).hyps ho) rfl hfi hb (run9 ) (args := [St' body, .slice (some ad_z) 0 0]) (by simp only [RelL, Rel]; exact ⟨_, _, rfl, rfl, ⟨_, _, rfl, rfl, rfl⟩⟩) w hl
def hy10 : LK := [(.len (.x 0), .x 2),
  (.bin .gtr (.x 2) (.i .i64 (.ofNat 2000)), .b false),
  (.slen (.x 1), .i .i64 (.ofNat 0)),
  (.bin .gtr (.x 2) (.i .i64 (.ofNat 512)), .b true),
  (.sub (.x 0) none (some (.i .i64 (.ofNat 512))), .x 3),
  (.len (.x 3), .i .i64 (.ofNat 512)),
  (.sub (.x 0) (some (.i .i64 (.ofNat 512))) none, .x 4),
  (.len (.x 4), .x 5),
  (.bin .gtr (.x 5) (.i .i64 (.ofNat 512)), .b true),
  (.sub (.x 4) none (some (.i .i64 (.ofNat 512))), .x 6),
  (.len (.x 6), .i .i64 (.ofNat 512)),
  (.sub (.x 4) (some (.i .i64 (.ofNat 512))) none, .x 7),
  (.len (.x 7), .x 8),
  (.bin .gtr (.x 8) (.i .i64 (.ofNat 512)), .b true),
  (.sub (.x 7) none (some (.i .i64 (.ofNat 512))), .x 9),
  (.len (.x 9), .i .i64 (.ofNat 512)),
  (.sub (.x 7) (some (.i .i64 (.ofNat 512))) none, .x 10),
  (.len (.x 10), .x 11),
  (.bin .gtr (.x 11) (.i .i64 (.ofNat 512)), .b false),
  (.bin .neq (.x 10) (.s 0 0), .b true),
  (.mm true (.x 11) (.i .i64 (.ofNat 0)), .x 12),
  (.un .neg (.x 12), .x 13),
  (.bin .and (.x 13) (.i .i64 (.ofNat 7)), .x 14),
  (.bin .gtr (.x 2) (.i .i64 (.ofNat 0)), .b true),
  (.mm false (.i .i64 (.ofNat 512)) (.x 2), .i .i64 (.ofNat 512)),
  (.bin .gtr (.x 5) (.i .i64 (.ofNat 0)), .b true),
  (.mm false (.i .i64 (.ofNat 512)) (.x 5), .i .i64 (.ofNat 512)),
  (.bin .gtr (.x 8) (.i .i64 (.ofNat 0)), .b true),
  (.mm false (.i .i64 (.ofNat 512)) (.x 8), .i .i64 (.ofNat 512)),
  (.bin .gtr (.x 11) (.i .i64 (.ofNat 0)), .b true),
  (.mm false (.i .i64 (.ofNat 512)) (.x 11), .x 15),
  (.sub (.x 10) none (some (.x 15)), .x 10),
  (.mm true (.i .i64 (.ofNat 0)) (.x 15), .x 16),
  (.bin .rem (.x 16) (.i .i64 (.ofNat 8)), .x 17),
  (.bin .sub (.i .i64 (.ofNat 8)) (.x 17), .x 18),
  (.bin .rem (.x 18) (.i .i64 (.ofNat 8)), .x 14),
  (.sub (.x 10) (some (.x 15)) none, .x 19),
  (.len (.x 19), .i .i64 (.ofNat 0))]
theorem run10 : Go.AX.okB (call (tbl hy10) 9000 3 [.x 0, .x 1] ⟨H0 , 1, 0, 0⟩) = true := by kernel_rfl
def nu10 (body : LB) (ad_z : Addr) : List Value := [St' body,
  .slice (some ad_z) 0 0,
  .int .i64 ((body.length : Int)),
  St' (List.take (Int.toNat (512 - (0))) (List.drop (Int.toNat (0)) body)),
  St' (List.take (Int.toNat ((body.length : Int) - (512))) (List.drop (Int.toNat (512)) body)),
  .int .i64 ((body.length : Int) - 512),
  St' (List.take (Int.toNat (512 - (0))) (List.drop (Int.toNat (0)) (List.take (Int.toNat ((body.length : Int) - (512))) (List.drop (Int.toNat (512)) body)))),
  St' (List.take (Int.toNat ((body.length : Int) - 512 - (512))) (List.drop (Int.toNat (512)) (List.take (Int.toNat ((body.length : Int) - (512))) (List.drop (Int.toNat (512)) body)))),
  .int .i64 ((body.length : Int) - 1024),
  St' (List.take (Int.toNat (512 - (0))) (List.drop (Int.toNat (0)) (List.take (Int.toNat ((body.length : Int) - 512 - (512))) (List.drop (Int.toNat (512)) (List.take (Int.toNat ((body.length : Int) - (512))) (List.drop (Int.toNat (512)) body)))))),
  St' (List.take (Int.toNat ((body.length : Int) - 1024 - (512))) (List.drop (Int.toNat (512)) (List.take (Int.toNat ((body.length : Int) - 512 - (512))) (List.drop (Int.toNat (512)) (List.take (Int.toNat ((body.length : Int) - (512))) (List.drop (Int.toNat (512)) body)))))),
  .int .i64 ((body.length : Int) - 1536),
  .int .i64 ((body.length : Int) - 1536),
  .int .i64 (1536 - (body.length : Int)),
  .int .i64 ((1536 - (body.length : Int)) % 8),
  .int .i64 ((body.length : Int) - 1536),
  .int .i64 ((body.length : Int) - 1536),
  .int .i64 (((body.length : Int) - 1536) % 8),
  .int .i64 (8 - (((body.length : Int) - 1536) % 8)),
  St' ([] : LB)]
theorem one10 (body : LB) (ad_z : Addr) : ∀ j, j < 1000000 → (nuL (nu10 body ad_z) j).oneCell' = true := fun j _ => nuL_one (l := nu10 body ad_z) rfl j
theorem path10 (body : LB) (ad_z : Addr) (b0 : body.length ≤ 9223372036854775807) (h0 : ¬ (2000 < (body.length : Int))) (h1 : 512 < (body.length : Int)) (h2 : 512 < (body.length : Int) - 512) (h3 : 512 < (body.length : Int) - 1024) (w : World) (hl : laidE w) : CwR 3 #[St' body, .slice (some ad_z) 0 0] w (.bool true) := by
  have := lenMd (l := body) (P := 0) (Q := 512) (by omega)
  have := lenMd (l := body) (P := 512) (Q := (body.length : Int)) (by omega)
  have := lenMd (l := (List.take (Int.toNat ((body.length : Int) - (512))) (List.drop (Int.toNat (512)) body))) (P := 0) (Q := 512) (by omega)
  have := lenMd (l := (List.take (Int.toNat ((body.length : Int) - (512))) (List.drop (Int.toNat (512)) body))) (P := 512) (Q := (body.length : Int) - 512) (by omega)
  have := lenMd (l := (List.take (Int.toNat ((body.length : Int) - 512 - (512))) (List.drop (Int.toNat (512)) (List.take (Int.toNat ((body.length : Int) - (512))) (List.drop (Int.toNat (512)) body))))) (P := 0) (Q := 512) (by omega)
  have := lenMd (l := (List.take (Int.toNat ((body.length : Int) - 512 - (512))) (List.drop (Int.toNat (512)) (List.take (Int.toNat ((body.length : Int) - (512))) (List.drop (Int.toNat (512)) body))))) (P := 512) (Q := (body.length : Int) - 1024) (by omega)
  have ho : ∀ k r, (k, r) ∈ hy10 → HOk (cx (nuL (nu10 body ad_z)) (one10 body ad_z) 0 laidE laidE_stab) k r := by
    unfold hy10
    exact hc (lnV rfl rfl (by omega)) <|
     hc (gtcF rfl (by omega)) <|
     hc (kSlen (isX rfl) (denZ (m := 0) rfl) rfl) <|
     hc (gtcT rfl (by omega)) <|
     hc (kMid (P := 0) (Q := 512) (isX rfl) (.inl ⟨rfl, rfl⟩) (.inr ⟨_, _, rfl, (isZ (m := 512) rfl)⟩) (by omega) (by omega) (by omega) (denX rfl)) <|
     hc (kLenE (isX rfl) (denZ (m := 512) rfl) (by omega)) <|
     hc (kMid (P := 512) (Q := (body.length : Int)) (isX rfl) (.inr ⟨_, _, rfl, (isZ (m := 512) rfl)⟩) (.inl ⟨rfl, by first | omega | (simp <;> omega)⟩) (by omega) (by omega) (by omega) (denX rfl)) <|
     hc (lnV rfl rfl (by omega)) <|
     hc (gtcT rfl (by omega)) <|
     hc (kMid (P := 0) (Q := 512) (isX rfl) (.inl ⟨rfl, rfl⟩) (.inr ⟨_, _, rfl, (isZ (m := 512) rfl)⟩) (by omega) (by omega) (by omega) (denX rfl)) <|
     hc (kLenE (isX rfl) (denZ (m := 512) rfl) (by omega)) <|
     hc (kMid (P := 512) (Q := (body.length : Int) - 512) (isX rfl) (.inr ⟨_, _, rfl, (isZ (m := 512) rfl)⟩) (.inl ⟨rfl, by first | omega | (simp <;> omega)⟩) (by omega) (by omega) (by omega) (denX rfl)) <|
     hc (lnV rfl rfl (by omega)) <|
     hc (gtcT rfl (by omega)) <|
     hc (kMid (P := 0) (Q := 512) (isX rfl) (.inl ⟨rfl, rfl⟩) (.inr ⟨_, _, rfl, (isZ (m := 512) rfl)⟩) (by omega) (by omega) (by omega) (denX rfl)) <|
     hc (kLenE (isX rfl) (denZ (m := 512) rfl) (by omega)) <|
     hc (kMid (P := 512) (Q := (body.length : Int) - 1024) (isX rfl) (.inr ⟨_, _, rfl, (isZ (m := 512) rfl)⟩) (.inl ⟨rfl, by first | omega | (simp <;> omega)⟩) (by omega) (by omega) (by omega) (denX rfl)) <|
     hc (lnV rfl rfl (by omega)) <|
     hc (gtcF rfl (by omega)) <|
     hc (kNeS (isX rfl) (isSx (l := ([] : LB)) 0 0 rfl) (bnT (nilF (by omega)))) <|
     hc (kMax (isX rfl) (isZ (m := 0) rfl) (denX rfl) (by omega)) <|
     hc (kNeg (isX rfl) (denX rfl) (by omega) (fI64 (by omega) (by omega))) <|
     hc (kAndG 3 8 rfl (by decide) (isX rfl) (isZ (m := 7) rfl) (denX rfl) (fI64 (by omega) (by omega)) rfl rfl (fI64 (by omega) (by omega))) <|
     hc (gtcT rfl (by omega)) <|
     hc (kMin (isZ (m := 512) rfl) (isX rfl) (denZ (m := 512) rfl) (by omega)) <|
     hc (gtcT rfl (by omega)) <|
     hc (kMin (isZ (m := 512) rfl) (isX rfl) (denZ (m := 512) rfl) (by omega)) <|
     hc (gtcT rfl (by omega)) <|
     hc (kMin (isZ (m := 512) rfl) (isX rfl) (denZ (m := 512) rfl) (by omega)) <|
     hc (gtcT rfl (by omega)) <|
     hc (kMin (isZ (m := 512) rfl) (isX rfl) (denX rfl) (by omega)) <|
     hc (kCut (isX rfl) (.inl ⟨rfl, rfl⟩) (.inr ⟨_, _, rfl, (isX rfl)⟩) (p := []) (m := (List.take (Int.toNat ((body.length : Int) - 1024 - (512))) (List.drop (Int.toNat (512)) (List.take (Int.toNat ((body.length : Int) - 512 - (512))) (List.drop (Int.toNat (512)) (List.take (Int.toNat ((body.length : Int) - (512))) (List.drop (Int.toNat (512)) body))))))) (q := []) (by simp) rfl (by simp <;> omega) (denX rfl)) <|
     hc (kMax (isZ (m := 0) rfl) (isX rfl) (denX rfl) (by omega)) <|
     hc (kRem (isX rfl) (isZ (m := 8) rfl) (denX rfl) (by omega) (by omega) rfl) <|
     hc (kSub (isZ (m := 8) rfl) (isX rfl) (denX rfl) (by omega) (fI64 (by omega) (by omega))) <|
     hc (kRem (isX rfl) (isZ (m := 8) rfl) (denX rfl) (by omega) (by omega) (by omega)) <|
     hc (kCut (isX rfl) (.inr ⟨_, _, rfl, (isX rfl)⟩) (.inl ⟨rfl, rfl⟩) (p := (List.take (Int.toNat ((body.length : Int) - 1024 - (512))) (List.drop (Int.toNat (512)) (List.take (Int.toNat ((body.length : Int) - 512 - (512))) (List.drop (Int.toNat (512)) (List.take (Int.toNat ((body.length : Int) - (512))) (List.drop (Int.toNat (512)) body))))))) (m := []) (q := []) (by simp) (by first | rfl | omega) (by simp) (denX rfl)) <|
     hc (kLenE (isX rfl) (denZ (m := 0) rfl) rfl) <|
     hnil
  obtain ⟨fi, hfi, hb⟩ := fiE
  exact runP (tb := (tbl hy10)) ((tabkOk (nuL (nu10 body ad_z)) (one10 body ad_z)).hyps ho) rfl hfi hb (run10 ) (args := [St' body, .slice (some ad_z) 0 0]) (by simp only [RelL, Rel]; exact ⟨_, _, rfl, rfl, ⟨_, _, rfl, rfl, rfl⟩⟩) w hl
def hy11 : LK := [(.len (.x 0), .x 2),
  (.bin .gtr (.x 2) (.i .i64 (.ofNat 2000)), .b true)]
theorem run11 : Go.AX.okB (call (tbl hy11) 9000 3 [.x 0, .x 1] ⟨H0 , 1, 0, 0⟩) = true := by kernel_rfl
def nu11 (body : LB) (ad_z : Addr) : List Value := [St' body,
  .slice (some ad_z) 0 0,
  .int .i64 ((body.length : Int))]
theorem one11 (body : LB) (ad_z : Addr) : ∀ j, j < 1000000 → (nuL (nu11 body ad_z) j).oneCell' = true := fun j _ => nuL_one (l := nu11 body ad_z) rfl j
theorem path11 (body : LB) (ad_z : Addr) (b0 : body.length ≤ 9223372036854775807) (h0 : 2000 < (body.length : Int)) (w : World) (hl : laidE w) : CwR 3 #[St' body, .slice (some ad_z) 0 0] w (.bool true) := by
  have ho : ∀ k r, (k, r) ∈ hy11 → HOk (cx (nuL (nu11 body ad_z)) (one11 body ad_z) 0 laidE laidE_stab) k r := by
    unfold hy11
    exact hc (lnV rfl rfl (by omega)) <|
     hc (gtcT rfl (by omega)) <|
     hnil
  obtain ⟨fi, hfi, hb⟩ := fiE
  exact runP (tb := (tbl hy11)) ((tabkOk (nuL (nu11 body ad_z)) (one11 body ad_z)).hyps ho) rfl hfi hb (run11 ) (args := [St' body, .slice (some ad_z) 0 0]) (by simp only [RelL, Rel]; exact ⟨_, _, rfl, rfl, ⟨_, _, rfl, rfl, rfl⟩⟩) w hl
end Go.Proofs.Ytgimfcnobfelbaa.laneGrammar
