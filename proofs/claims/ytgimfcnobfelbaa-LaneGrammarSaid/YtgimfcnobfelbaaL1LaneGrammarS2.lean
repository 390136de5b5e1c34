/- A part of the proof: an interpreter of the model's own code on partly known states, and that what it answers is what the program answers. No condition of its own. -/
import Derived.Test.YtgimfcnobfelbaaL1LaneGrammarQ
set_option maxRecDepth 100000
set_option linter.unusedVariables false
set_option linter.unusedSimpArgs false
set_option maxHeartbeats 4000000
namespace Go.Proofs.Ytgimfcnobfelbaa.laneGrammar
open Go Go.AX Go.Proofs Go.Proofs.Ytgimfcnobfelbaa
def hy6 : LK := [(.len (.x 0), .x 2),
  (.bin .gtr (.x 2) (.i .i64 (.ofNat 2000)), .b false),
  (.slen (.x 1), .i .i64 (.ofNat 0)),
  (.bin .gtr (.x 2) (.i .i64 (.ofNat 512)), .b false),
  (.bin .neq (.x 0) (.s 0 0), .b false),
  (.bin .gtr (.x 2) (.i .i64 (.ofNat 0)), .b false)]
theorem run6 : Go.AX.okB (call (tbl hy6) 9000 3 [.x 0, .x 1] ⟨H0 , 1, 0, 0⟩) = true := by kernel_rfl
def nu6 (body : LB) (ad_z : Addr) : List Value := [St' body,
  .slice (some ad_z) 0 0,
  .int .i64 ((body.length : Int))]
theorem one6 (body : LB) (ad_z : Addr) : ∀ j, j < 1000000 → (nuL (nu6 body ad_z) j).oneCell' = true := fun j _ => nuL_one (l := nu6 body ad_z) rfl j
theorem path6 (body : LB) (ad_z : Addr) (b0 : body.length ≤ 9223372036854775807) (h0 : ¬ (2000 < (body.length : Int))) (h1 : ¬ (512 < (body.length : Int))) (h2 : (body.length : Int) = 0) (w : World) (hl : laidE w) : CwR 3 #[St' body, .slice (some ad_z) 0 0] w (.bool true) := by
  have ho : ∀ k r, (k, r) ∈ hy6 → HOk (cx (nuL (nu6 body ad_z)) (one6 body ad_z) 0 laidE laidE_stab) k r := by
    unfold hy6
    exact hc (lnV rfl rfl (by omega)) <|
     hc (gtcF rfl (by omega)) <|
     hc (kSlen (isX rfl) (denZ (m := 0) rfl) rfl) <|
     hc (gtcF rfl (by omega)) <|
     hc (kNeS (isX rfl) (isSx (l := ([] : LB)) 0 0 rfl) (bnF (nilT (by omega)))) <|
     hc (gtcF rfl (by omega)) <|
     hnil
  obtain ⟨fi, hfi, hb⟩ := fiE
  exact runP (tb := (tbl hy6)) ((tabkOk (nuL (nu6 body ad_z)) (one6 body ad_z)).hyps ho) rfl hfi hb (run6 ) (args := [St' body, .slice (some ad_z) 0 0]) (by simp only [RelL, Rel]; exact ⟨_, _, rfl, rfl, ⟨_, _, rfl, rfl, rfl⟩⟩) w hl
def hy7 : LK := [(.len (.x 0), .x 2),
  (.bin .gtr (.x 2) (.i .i64 (.ofNat 2000)), .b false),
  (.slen (.x 1), .i .i64 (.ofNat 0)),
  (.bin .gtr (.x 2) (.i .i64 (.ofNat 512)), .b false),
  (.bin .neq (.x 0) (.s 0 0), .b true),
  (.mm true (.x 2) (.i .i64 (.ofNat 0)), .x 3),
  (.un .neg (.x 3), .x 4),
  (.bin .and (.x 4) (.i .i64 (.ofNat 7)), .x 5),
  (.bin .gtr (.x 2) (.i .i64 (.ofNat 0)), .b true),
  (.mm false (.i .i64 (.ofNat 512)) (.x 2), .x 6),
  (.sub (.x 0) none (some (.x 6)), .x 0),
  (.mm true (.i .i64 (.ofNat 0)) (.x 6), .x 7),
  (.bin .rem (.x 7) (.i .i64 (.ofNat 8)), .x 8),
  (.bin .sub (.i .i64 (.ofNat 8)) (.x 8), .x 9),
  (.bin .rem (.x 9) (.i .i64 (.ofNat 8)), .x 5),
  (.sub (.x 0) (some (.x 6)) none, .x 10),
  (.len (.x 10), .i .i64 (.ofNat 0))]
theorem run7 : Go.AX.okB (call (tbl hy7) 9000 3 [.x 0, .x 1] ⟨H0 , 1, 0, 0⟩) = true := by kernel_rfl
def nu7 (body : LB) (ad_z : Addr) : List Value := [St' body,
  .slice (some ad_z) 0 0,
  .int .i64 ((body.length : Int)),
  .int .i64 ((body.length : Int)),
  .int .i64 (-((body.length : Int))),
  .int .i64 ((-((body.length : Int))) % 8),
  .int .i64 ((body.length : Int)),
  .int .i64 ((body.length : Int)),
  .int .i64 ((body.length : Int) % 8),
  .int .i64 (8 - ((body.length : Int) % 8)),
  St' ([] : LB)]
theorem one7 (body : LB) (ad_z : Addr) : ∀ j, j < 1000000 → (nuL (nu7 body ad_z) j).oneCell' = true := fun j _ => nuL_one (l := nu7 body ad_z) rfl j
theorem path7 (body : LB) (ad_z : Addr) (b0 : body.length ≤ 9223372036854775807) (h0 : ¬ (2000 < (body.length : Int))) (h1 : ¬ (512 < (body.length : Int))) (h2 : ¬ ((body.length : Int) = 0)) (w : World) (hl : laidE w) : CwR 3 #[St' body, .slice (some ad_z) 0 0] w (.bool true) := by
  have ho : ∀ k r, (k, r) ∈ hy7 → HOk (cx (nuL (nu7 body ad_z)) (one7 body ad_z) 0 laidE laidE_stab) k r := by
    unfold hy7
    exact hc (lnV rfl rfl (by omega)) <|
     hc (gtcF rfl (by omega)) <|
     hc (kSlen (isX rfl) (denZ (m := 0) rfl) rfl) <|
     hc (gtcF rfl (by omega)) <|
     hc (kNeS (isX rfl) (isSx (l := ([] : LB)) 0 0 rfl) (bnT (nilF (by omega)))) <|
     hc (kMax (isX rfl) (isZ (m := 0) rfl) (denX rfl) (by omega)) <|
     hc (kNeg (isX rfl) (denX rfl) (by omega) (fI64 (by omega) (by omega))) <|
     hc (kAndG 3 8 rfl (by decide) (isX rfl) (isZ (m := 7) rfl) (denX rfl) (fI64 (by omega) (by omega)) rfl rfl (fI64 (by omega) (by omega))) <|
     hc (gtcT rfl (by omega)) <|
     hc (kMin (isZ (m := 512) rfl) (isX rfl) (denX rfl) (by omega)) <|
     hc (kCut (isX rfl) (.inl ⟨rfl, rfl⟩) (.inr ⟨_, _, rfl, (isX rfl)⟩) (p := []) (m := body) (q := []) (by simp) rfl (by simp <;> omega) (denX rfl)) <|
     hc (kMax (isZ (m := 0) rfl) (isX rfl) (denX rfl) (by omega)) <|
     hc (kRem (isX rfl) (isZ (m := 8) rfl) (denX rfl) (by omega) (by omega) rfl) <|
     hc (kSub (isZ (m := 8) rfl) (isX rfl) (denX rfl) (by omega) (fI64 (by omega) (by omega))) <|
     hc (kRem (isX rfl) (isZ (m := 8) rfl) (denX rfl) (by omega) (by omega) (by omega)) <|
     hc (kCut (isX rfl) (.inr ⟨_, _, rfl, (isX rfl)⟩) (.inl ⟨rfl, rfl⟩) (p := body) (m := []) (q := []) (by simp) (by first | rfl | omega) (by simp) (denX rfl)) <|
     hc (kLenE (isX rfl) (denZ (m := 0) rfl) rfl) <|
     hnil
  obtain ⟨fi, hfi, hb⟩ := fiE
  exact runP (tb := (tbl hy7)) ((tabkOk (nuL (nu7 body ad_z)) (one7 body ad_z)).hyps ho) rfl hfi hb (run7 ) (args := [St' body, .slice (some ad_z) 0 0]) (by simp only [RelL, Rel]; exact ⟨_, _, rfl, rfl, ⟨_, _, rfl, rfl, rfl⟩⟩) w hl
def hy8 : LK := [(.len (.x 0), .x 2),
  (.bin .gtr (.x 2) (.i .i64 (.ofNat 2000)), .b false),
  (.slen (.x 1), .i .i64 (.ofNat 0)),
  (.bin .gtr (.x 2) (.i .i64 (.ofNat 512)), .b true),
  (.sub (.x 0) none (some (.i .i64 (.ofNat 512))), .x 3),
  (.len (.x 3), .i .i64 (.ofNat 512)),
  (.sub (.x 0) (some (.i .i64 (.ofNat 512))) none, .x 4),
  (.len (.x 4), .x 5),
  (.bin .gtr (.x 5) (.i .i64 (.ofNat 512)), .b false),
  (.bin .neq (.x 4) (.s 0 0), .b true),
  (.mm true (.x 5) (.i .i64 (.ofNat 0)), .x 6),
  (.un .neg (.x 6), .x 7),
  (.bin .and (.x 7) (.i .i64 (.ofNat 7)), .x 8),
  (.bin .gtr (.x 2) (.i .i64 (.ofNat 0)), .b true),
  (.mm false (.i .i64 (.ofNat 512)) (.x 2), .i .i64 (.ofNat 512)),
  (.bin .gtr (.x 5) (.i .i64 (.ofNat 0)), .b true),
  (.mm false (.i .i64 (.ofNat 512)) (.x 5), .x 9),
  (.sub (.x 4) none (some (.x 9)), .x 4),
  (.mm true (.i .i64 (.ofNat 0)) (.x 9), .x 10),
  (.bin .rem (.x 10) (.i .i64 (.ofNat 8)), .x 11),
  (.bin .sub (.i .i64 (.ofNat 8)) (.x 11), .x 12),
  (.bin .rem (.x 12) (.i .i64 (.ofNat 8)), .x 8),
  (.sub (.x 4) (some (.x 9)) none, .x 13),
  (.len (.x 13), .i .i64 (.ofNat 0))]
theorem run8 : Go.AX.okB (call (tbl hy8) 9000 3 [.x 0, .x 1] ⟨H0 , 1, 0, 0⟩) = true := by kernel_rfl
def nu8 (body : LB) (ad_z : Addr) : List Value := [St' body,
  .slice (some ad_z) 0 0,
  .int .i64 ((body.length : Int)),
  St' (List.take (Int.toNat (512 - (0))) (List.drop (Int.toNat (0)) body)),
  St' (List.take (Int.toNat ((body.length : Int) - (512))) (List.drop (Int.toNat (512)) body)),
  .int .i64 ((body.length : Int) - 512),
  .int .i64 ((body.length : Int) - 512),
  .int .i64 (512 - (body.length : Int)),
  .int .i64 ((512 - (body.length : Int)) % 8),
  .int .i64 ((body.length : Int) - 512),
  .int .i64 ((body.length : Int) - 512),
  .int .i64 (((body.length : Int) - 512) % 8),
  .int .i64 (8 - (((body.length : Int) - 512) % 8)),
  St' ([] : LB)]
theorem one8 (body : LB) (ad_z : Addr) : ∀ j, j < 1000000 → (nuL (nu8 body ad_z) j).oneCell' = true := fun j _ => nuL_one (l := nu8 body ad_z) rfl j
theorem path8 (body : LB) (ad_z : Addr) (b0 : body.length ≤ 9223372036854775807) (h0 : ¬ (2000 < (body.length : Int))) (h1 : 512 < (body.length : Int)) (h2 : ¬ (512 < (body.length : Int) - 512)) (w : World) (hl : laidE w) : CwR 3 #[St' body, .slice (some ad_z) 0 0] w (.bool true) := by
  have := lenMd (l := body) (P := 0) (Q := 512) (by omega)
  have := lenMd (l := body) (P := 512) (Q := (body.length : Int)) (by omega)
  have ho : ∀ k r, (k, r) ∈ hy8 → HOk (cx (nuL (nu8 body ad_z)) (one8 body ad_z) 0 laidE laidE_stab) k r := by
    unfold hy8
    exact hc (lnV rfl rfl (by omega)) <|
     hc (gtcF rfl (by omega)) <|
     hc (kSlen (isX rfl) (denZ (m := 0) rfl) rfl) <|
     hc (gtcT rfl (by omega)) <|
     hc (kMid (P := 0) (Q := 512) (isX rfl) (.inl ⟨rfl, rfl⟩) (.inr ⟨_, _, rfl, (isZ (m := 512) rfl)⟩) (by omega) (by omega) (by omega) (denX rfl)) <|
     hc (kLenE (isX rfl) (denZ (m := 512) rfl) (by omega)) <|
     hc (kMid (P := 512) (Q := (body.length : Int)) (isX rfl) (.inr ⟨_, _, rfl, (isZ (m := 512) rfl)⟩) (.inl ⟨rfl, by first | omega | (simp <;> omega)⟩) (by omega) (by omega) (by omega) (denX rfl)) <|
     hc (lnV rfl rfl (by omega)) <|
     hc (gtcF rfl (by omega)) <|
     hc (kNeS (isX rfl) (isSx (l := ([] : LB)) 0 0 rfl) (bnT (nilF (by omega)))) <|
     hc (kMax (isX rfl) (isZ (m := 0) rfl) (denX rfl) (by omega)) <|
     hc (kNeg (isX rfl) (denX rfl) (by omega) (fI64 (by omega) (by omega))) <|
     hc (kAndG 3 8 rfl (by decide) (isX rfl) (isZ (m := 7) rfl) (denX rfl) (fI64 (by omega) (by omega)) rfl rfl (fI64 (by omega) (by omega))) <|
     hc (gtcT rfl (by omega)) <|
     hc (kMin (isZ (m := 512) rfl) (isX rfl) (denZ (m := 512) rfl) (by omega)) <|
     hc (gtcT rfl (by omega)) <|
     hc (kMin (isZ (m := 512) rfl) (isX rfl) (denX rfl) (by omega)) <|
     hc (kCut (isX rfl) (.inl ⟨rfl, rfl⟩) (.inr ⟨_, _, rfl, (isX rfl)⟩) (p := []) (m := (List.take (Int.toNat ((body.length : Int) - (512))) (List.drop (Int.toNat (512)) body))) (q := []) (by simp) rfl (by simp <;> omega) (denX rfl)) <|
     hc (kMax (isZ (m := 0) rfl) (isX rfl) (denX rfl) (by omega)) <|
     hc (kRem (isX rfl) (isZ (m := 8) rfl) (denX rfl) (by omega) (by omega) rfl) <|
     hc (kSub (isZ (m := 8) rfl) (isX rfl) (denX rfl) (by omega) (fI64 (by omega) (by omega))) <|
     hc (kRem (isX rfl) (isZ (m := 8) rfl) (denX rfl) (by omega) (by omega) (by omega)) <|
     hc (kCut (isX rfl) (.inr ⟨_, _, rfl, (isX rfl)⟩) (.inl ⟨rfl, rfl⟩) (p := (List.take (Int.toNat ((body.length : Int) - (512))) (List.drop (Int.toNat (512)) body))) (m := []) (q := []) (by simp) (by first | rfl | omega) (by simp) (denX rfl)) <|
     hc (kLenE (isX rfl) (denZ (m := 0) rfl) rfl) <|
     hnil
  obtain ⟨fi, hfi, hb⟩ := fiE
  exact runP (tb := (tbl hy8)) ((tabkOk (nuL (nu8 body ad_z)) (one8 body ad_z)).hyps ho) rfl hfi hb (run8 ) (args := [St' body, .slice (some ad_z) 0 0]) (by simp only [RelL, Rel]; exact ⟨_, _, rfl, rfl, ⟨_, _, rfl, rfl, rfl⟩⟩) w hl
end Go.Proofs.Ytgimfcnobfelbaa.laneGrammar
