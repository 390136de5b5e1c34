/- A part of the proof: an interpreter of the model's own code on partly known states, and that what it answers is what the program answers. No condition of its own. -/
import Derived.Test.YticlhkekkfelpaaDoorB5RuleExtsO
set_option maxRecDepth 100000
set_option linter.unusedVariables false
set_option linter.unusedSimpArgs false
namespace Go.Proofs.YticlhkekkfelpaaDoor.ruleExts
open Go Go.AX Go.Proofs Go.Proofs.YticlhkekkfelpaaDoor
def hy132 : List (HK × AV) := [(.bin .rem (.x 0) (u1 11), u1 9),
  (.conv 3 (.x 1), .x 3),
  (.bin .rem (.x 3) (i6 9), i6 7),
  (.bytes [u1 46, u1 112, u1 112, u1 112, u1 112, u1 112, u1 112, u1 112, .x 2, u1 112], .x 4),
  (.len (.x 4), i6 10),
  (.sub (.x 4) none (some (i6 1)), .x 5),
  (.bin .eql (.x 5) (.s 1 46), .b true),
  (.sub (.x 4) (some (i6 1)) none, .x 6),
  (.len (.x 6), i6 9),
  (.idx (.x 6) (i6 0), u1 112),
  (.idx (.x 6) (i6 1), u1 112),
  (.idx (.x 6) (i6 2), u1 112),
  (.idx (.x 6) (i6 3), u1 112),
  (.idx (.x 6) (i6 4), u1 112),
  (.idx (.x 6) (i6 5), u1 112),
  (.idx (.x 6) (i6 6), u1 112),
  (.idx (.x 6) (i6 7), .x 7),
  (.bin .geq (.x 7) (u1 97), .b true),
  (.bin .leq (.x 7) (u1 122), .b false)]
theorem run132 : okB (call (tbl hy132) 9000 7 [.x 0, .x 1, .x 2] ⟨H0 , 7, 0, 0⟩) = true := by kernel_rfl
def nu132 (n pos chr : Int) : List Value := [.int .u8 (n),
  .int .u8 (pos),
  .int .u8 (chr),
  .int .i64 (pos),
  St' ([u8 46, u8 112, u8 112, u8 112, u8 112, u8 112, u8 112, u8 112, u8 (chr), u8 112]),
  St' ([u8 46]),
  St' ([u8 112, u8 112, u8 112, u8 112, u8 112, u8 112, u8 112, u8 (chr), u8 112]),
  .int .u8 (chr)]
theorem path132 (n pos chr : Int) (bb : BB n pos chr) (h0 : n % 11 = 9) (h1 : pos % 9 = 7) (h2 : 97 ≤ chr) (h3 : ¬ (chr ≤ 122)) (w : World) (hl : laidE w) : Cw #[.int .u8 n, .int .u8 pos, .int .u8 chr] w := by
  obtain ⟨fi, hfi, hb⟩ := fiE
  refine runP (tb := tbl hy132) ((tabkOk (nuL (nu132 n pos chr)) (nuL_one (l := nu132 n pos chr) rfl)).hyps ?_) rfl hfi hb (run132 ) (args := [.int .u8 n, .int .u8 pos, .int .u8 chr]) (by simp only [RelL, Rel]; exact ⟨_, _, rfl, rfl, ⟨_, _, rfl, rfl, ⟨_, _, rfl, rfl, rfl⟩⟩⟩) w hl
  obtain ⟨b0, b1, b2, b3, b4, b5⟩ := bb
  unfold hy132
  refine hcons (kRem (isX rfl) (isZ (m := 11) rfl) (denZ (m := 9) rfl) (by omega) (by omega) (by omega)) ?_
  refine hcons (kConvF (isX rfl) tu3 (denX rfl) (fI64 (by omega) (by omega))) ?_
  refine hcons (kRem (isX rfl) (isZ (m := 9) rfl) (denZ (m := 7) rfl) (by omega) (by omega) (by omega)) ?_
  refine hcons (kBytesB (bs := [u8 46, u8 112, u8 112, u8 112, u8 112, u8 112, u8 112, u8 112, u8 (chr), u8 112]) (bC (by omega) (bC (by omega) (bC (by omega) (bC (by omega) (bC (by omega) (bC (by omega) (bC (by omega) (bC (by omega) (.cons (isB8 (isX rfl) (by omega) (by omega)) (bC (by omega) .nil)))))))))) (denX rfl)) ?_
  refine hcons (kLenE (isX rfl) (denZ (m := 10) rfl) rfl) ?_
  refine hcons (kMid (P := 0) (Q := 1) (isX rfl) (.inl ⟨rfl, rfl⟩) (.inr ⟨_, _, rfl, (isZ (m := 1) rfl)⟩) (by omega) (by omega) (by simp) (denX rfl)) ?_
  refine hcons (kEqS (isX rfl) (isSx (l := [u8 46]) 1 46 rfl) (decide_eq_true rfl)) ?_
  refine hcons (kMid (P := 1) (Q := 10) (isX rfl) (.inr ⟨_, _, rfl, (isZ (m := 1) rfl)⟩) (.inl ⟨rfl, rfl⟩) (by omega) (by omega) (by simp) (denX rfl)) ?_
  refine hcons (kLenE (isX rfl) (denZ (m := 9) rfl) rfl) ?_
  refine hcons (kIdxC (isX rfl) (by simp) rfl (by omega)) ?_
  refine hcons (kIdxC (isX rfl) (by simp) rfl (by omega)) ?_
  refine hcons (kIdxC (isX rfl) (by simp) rfl (by omega)) ?_
  refine hcons (kIdxC (isX rfl) (by simp) rfl (by omega)) ?_
  refine hcons (kIdxC (isX rfl) (by simp) rfl (by omega)) ?_
  refine hcons (kIdxC (isX rfl) (by simp) rfl (by omega)) ?_
  refine hcons (kIdxC (isX rfl) (by simp) rfl (by omega)) ?_
  refine hcons (kIdxE (i := 7) (isX rfl) (isZ (m := 7) rfl) (denX rfl) rfl (by simp) (bt_at rfl (by omega) (by omega))) ?_
  refine hcons (kGe (isX rfl) (isZ (m := 97) rfl) (decide_eq_true (by omega))) ?_
  refine hcons (kLe (isX rfl) (isZ (m := 122) rfl) (decide_eq_false (by omega))) ?_
  exact hnil
def hy133 : List (HK × AV) := [(.bin .rem (.x 0) (u1 11), u1 9),
  (.conv 3 (.x 1), .x 3),
  (.bin .rem (.x 3) (i6 9), i6 8),
  (.bytes [u1 46, u1 112, u1 112, u1 112, u1 112, u1 112, u1 112, u1 112, u1 112, .x 2], .x 4),
  (.len (.x 4), i6 10),
  (.sub (.x 4) none (some (i6 1)), .x 5),
  (.bin .eql (.x 5) (.s 1 46), .b true),
  (.sub (.x 4) (some (i6 1)) none, .x 6),
  (.len (.x 6), i6 9),
  (.idx (.x 6) (i6 0), u1 112),
  (.idx (.x 6) (i6 1), u1 112),
  (.idx (.x 6) (i6 2), u1 112),
  (.idx (.x 6) (i6 3), u1 112),
  (.idx (.x 6) (i6 4), u1 112),
  (.idx (.x 6) (i6 5), u1 112),
  (.idx (.x 6) (i6 6), u1 112),
  (.idx (.x 6) (i6 7), u1 112),
  (.idx (.x 6) (i6 8), .x 7),
  (.bin .geq (.x 7) (u1 97), .b false)]
theorem run133 : okB (call (tbl hy133) 9000 7 [.x 0, .x 1, .x 2] ⟨H0 , 7, 0, 0⟩) = true := by kernel_rfl
def nu133 (n pos chr : Int) : List Value := [.int .u8 (n),
  .int .u8 (pos),
  .int .u8 (chr),
  .int .i64 (pos),
  St' ([u8 46, u8 112, u8 112, u8 112, u8 112, u8 112, u8 112, u8 112, u8 112, u8 (chr)]),
  St' ([u8 46]),
  St' ([u8 112, u8 112, u8 112, u8 112, u8 112, u8 112, u8 112, u8 112, u8 (chr)]),
  .int .u8 (chr)]
theorem path133 (n pos chr : Int) (bb : BB n pos chr) (h0 : n % 11 = 9) (h1 : pos % 9 = 8) (h2 : ¬ (97 ≤ chr)) (w : World) (hl : laidE w) : Cw #[.int .u8 n, .int .u8 pos, .int .u8 chr] w := by
  obtain ⟨fi, hfi, hb⟩ := fiE
  refine runP (tb := tbl hy133) ((tabkOk (nuL (nu133 n pos chr)) (nuL_one (l := nu133 n pos chr) rfl)).hyps ?_) rfl hfi hb (run133 ) (args := [.int .u8 n, .int .u8 pos, .int .u8 chr]) (by simp only [RelL, Rel]; exact ⟨_, _, rfl, rfl, ⟨_, _, rfl, rfl, ⟨_, _, rfl, rfl, rfl⟩⟩⟩) w hl
  obtain ⟨b0, b1, b2, b3, b4, b5⟩ := bb
  unfold hy133
  refine hcons (kRem (isX rfl) (isZ (m := 11) rfl) (denZ (m := 9) rfl) (by omega) (by omega) (by omega)) ?_
  refine hcons (kConvF (isX rfl) tu3 (denX rfl) (fI64 (by omega) (by omega))) ?_
  refine hcons (kRem (isX rfl) (isZ (m := 9) rfl) (denZ (m := 8) rfl) (by omega) (by omega) (by omega)) ?_
  refine hcons (kBytesB (bs := [u8 46, u8 112, u8 112, u8 112, u8 112, u8 112, u8 112, u8 112, u8 112, u8 (chr)]) (bC (by omega) (bC (by omega) (bC (by omega) (bC (by omega) (bC (by omega) (bC (by omega) (bC (by omega) (bC (by omega) (bC (by omega) (.cons (isB8 (isX rfl) (by omega) (by omega)) .nil)))))))))) (denX rfl)) ?_
  refine hcons (kLenE (isX rfl) (denZ (m := 10) rfl) rfl) ?_
  refine hcons (kMid (P := 0) (Q := 1) (isX rfl) (.inl ⟨rfl, rfl⟩) (.inr ⟨_, _, rfl, (isZ (m := 1) rfl)⟩) (by omega) (by omega) (by simp) (denX rfl)) ?_
  refine hcons (kEqS (isX rfl) (isSx (l := [u8 46]) 1 46 rfl) (decide_eq_true rfl)) ?_
  refine hcons (kMid (P := 1) (Q := 10) (isX rfl) (.inr ⟨_, _, rfl, (isZ (m := 1) rfl)⟩) (.inl ⟨rfl, rfl⟩) (by omega) (by omega) (by simp) (denX rfl)) ?_
  refine hcons (kLenE (isX rfl) (denZ (m := 9) rfl) rfl) ?_
  refine hcons (kIdxC (isX rfl) (by simp) rfl (by omega)) ?_
  refine hcons (kIdxC (isX rfl) (by simp) rfl (by omega)) ?_
  refine hcons (kIdxC (isX rfl) (by simp) rfl (by omega)) ?_
  refine hcons (kIdxC (isX rfl) (by simp) rfl (by omega)) ?_
  refine hcons (kIdxC (isX rfl) (by simp) rfl (by omega)) ?_
  refine hcons (kIdxC (isX rfl) (by simp) rfl (by omega)) ?_
  refine hcons (kIdxC (isX rfl) (by simp) rfl (by omega)) ?_
  refine hcons (kIdxC (isX rfl) (by simp) rfl (by omega)) ?_
  refine hcons (kIdxE (i := 8) (isX rfl) (isZ (m := 8) rfl) (denX rfl) rfl (by simp) (bt_at rfl (by omega) (by omega))) ?_
  refine hcons (kGe (isX rfl) (isZ (m := 97) rfl) (decide_eq_false (by omega))) ?_
  exact hnil
def hy134 : List (HK × AV) := [(.bin .rem (.x 0) (u1 11), u1 9),
  (.conv 3 (.x 1), .x 3),
  (.bin .rem (.x 3) (i6 9), i6 8),
  (.bytes [u1 46, u1 112, u1 112, u1 112, u1 112, u1 112, u1 112, u1 112, u1 112, .x 2], .x 4),
  (.len (.x 4), i6 10),
  (.sub (.x 4) none (some (i6 1)), .x 5),
  (.bin .eql (.x 5) (.s 1 46), .b true),
  (.sub (.x 4) (some (i6 1)) none, .x 6),
  (.len (.x 6), i6 9),
  (.idx (.x 6) (i6 0), u1 112),
  (.idx (.x 6) (i6 1), u1 112),
  (.idx (.x 6) (i6 2), u1 112),
  (.idx (.x 6) (i6 3), u1 112),
  (.idx (.x 6) (i6 4), u1 112),
  (.idx (.x 6) (i6 5), u1 112),
  (.idx (.x 6) (i6 6), u1 112),
  (.idx (.x 6) (i6 7), u1 112),
  (.idx (.x 6) (i6 8), .x 7),
  (.bin .geq (.x 7) (u1 97), .b true),
  (.bin .leq (.x 7) (u1 122), .b true),
  (.bin .neq (.x 6) (.s 0 0), .b true)]
theorem run134 : okB (call (tbl hy134) 9000 7 [.x 0, .x 1, .x 2] ⟨H0 , 7, 0, 0⟩) = true := by kernel_rfl
def nu134 (n pos chr : Int) : List Value := [.int .u8 (n),
  .int .u8 (pos),
  .int .u8 (chr),
  .int .i64 (pos),
  St' ([u8 46, u8 112, u8 112, u8 112, u8 112, u8 112, u8 112, u8 112, u8 112, u8 (chr)]),
  St' ([u8 46]),
  St' ([u8 112, u8 112, u8 112, u8 112, u8 112, u8 112, u8 112, u8 112, u8 (chr)]),
  .int .u8 (chr)]
theorem path134 (n pos chr : Int) (bb : BB n pos chr) (h0 : n % 11 = 9) (h1 : pos % 9 = 8) (h2 : 97 ≤ chr) (h3 : chr ≤ 122) (w : World) (hl : laidE w) : Cw #[.int .u8 n, .int .u8 pos, .int .u8 chr] w := by
  obtain ⟨fi, hfi, hb⟩ := fiE
  refine runP (tb := tbl hy134) ((tabkOk (nuL (nu134 n pos chr)) (nuL_one (l := nu134 n pos chr) rfl)).hyps ?_) rfl hfi hb (run134 ) (args := [.int .u8 n, .int .u8 pos, .int .u8 chr]) (by simp only [RelL, Rel]; exact ⟨_, _, rfl, rfl, ⟨_, _, rfl, rfl, ⟨_, _, rfl, rfl, rfl⟩⟩⟩) w hl
  obtain ⟨b0, b1, b2, b3, b4, b5⟩ := bb
  unfold hy134
  refine hcons (kRem (isX rfl) (isZ (m := 11) rfl) (denZ (m := 9) rfl) (by omega) (by omega) (by omega)) ?_
  refine hcons (kConvF (isX rfl) tu3 (denX rfl) (fI64 (by omega) (by omega))) ?_
  refine hcons (kRem (isX rfl) (isZ (m := 9) rfl) (denZ (m := 8) rfl) (by omega) (by omega) (by omega)) ?_
  refine hcons (kBytesB (bs := [u8 46, u8 112, u8 112, u8 112, u8 112, u8 112, u8 112, u8 112, u8 112, u8 (chr)]) (bC (by omega) (bC (by omega) (bC (by omega) (bC (by omega) (bC (by omega) (bC (by omega) (bC (by omega) (bC (by omega) (bC (by omega) (.cons (isB8 (isX rfl) (by omega) (by omega)) .nil)))))))))) (denX rfl)) ?_
  refine hcons (kLenE (isX rfl) (denZ (m := 10) rfl) rfl) ?_
  refine hcons (kMid (P := 0) (Q := 1) (isX rfl) (.inl ⟨rfl, rfl⟩) (.inr ⟨_, _, rfl, (isZ (m := 1) rfl)⟩) (by omega) (by omega) (by simp) (denX rfl)) ?_
  refine hcons (kEqS (isX rfl) (isSx (l := [u8 46]) 1 46 rfl) (decide_eq_true rfl)) ?_
  refine hcons (kMid (P := 1) (Q := 10) (isX rfl) (.inr ⟨_, _, rfl, (isZ (m := 1) rfl)⟩) (.inl ⟨rfl, rfl⟩) (by omega) (by omega) (by simp) (denX rfl)) ?_
  refine hcons (kLenE (isX rfl) (denZ (m := 9) rfl) rfl) ?_
  refine hcons (kIdxC (isX rfl) (by simp) rfl (by omega)) ?_
  refine hcons (kIdxC (isX rfl) (by simp) rfl (by omega)) ?_
  refine hcons (kIdxC (isX rfl) (by simp) rfl (by omega)) ?_
  refine hcons (kIdxC (isX rfl) (by simp) rfl (by omega)) ?_
  refine hcons (kIdxC (isX rfl) (by simp) rfl (by omega)) ?_
  refine hcons (kIdxC (isX rfl) (by simp) rfl (by omega)) ?_
  refine hcons (kIdxC (isX rfl) (by simp) rfl (by omega)) ?_
  refine hcons (kIdxC (isX rfl) (by simp) rfl (by omega)) ?_
  refine hcons (kIdxE (i := 8) (isX rfl) (isZ (m := 8) rfl) (denX rfl) rfl (by simp) (bt_at rfl (by omega) (by omega))) ?_
  refine hcons (kGe (isX rfl) (isZ (m := 97) rfl) (decide_eq_true (by omega))) ?_
  refine hcons (kLe (isX rfl) (isZ (m := 122) rfl) (decide_eq_true (by omega))) ?_
  refine hcons (kNeS (isX rfl) (isSx (l := ([] : List UInt8)) 0 0 rfl) (bnT (by first | exact nilT (by first | omega | (simp only [List.length_append, List.length_cons, List.length_nil, List.length_take, List.length_drop, List.length_replicate, Int.natCast_add] at * <;> omega)) | exact nilF (by first | omega | (simp only [List.length_append, List.length_cons, List.length_nil, List.length_take, List.length_drop, List.length_replicate, Int.natCast_add] at * <;> omega)) | exact nilT' (by first | omega | (simp only [List.length_append, List.length_cons, List.length_nil, List.length_take, List.length_drop, List.length_replicate, Int.natCast_add] at * <;> omega)) | exact nilF' (by first | omega | (simp only [List.length_append, List.length_cons, List.length_nil, List.length_take, List.length_drop, List.length_replicate, Int.natCast_add] at * <;> omega))))) ?_
  exact hnil
def hy135 : List (HK × AV) := [(.bin .rem (.x 0) (u1 11), u1 9),
  (.conv 3 (.x 1), .x 3),
  (.bin .rem (.x 3) (i6 9), i6 8),
  (.bytes [u1 46, u1 112, u1 112, u1 112, u1 112, u1 112, u1 112, u1 112, u1 112, .x 2], .x 4),
  (.len (.x 4), i6 10),
  (.sub (.x 4) none (some (i6 1)), .x 5),
  (.bin .eql (.x 5) (.s 1 46), .b true),
  (.sub (.x 4) (some (i6 1)) none, .x 6),
  (.len (.x 6), i6 9),
  (.idx (.x 6) (i6 0), u1 112),
  (.idx (.x 6) (i6 1), u1 112),
  (.idx (.x 6) (i6 2), u1 112),
  (.idx (.x 6) (i6 3), u1 112),
  (.idx (.x 6) (i6 4), u1 112),
  (.idx (.x 6) (i6 5), u1 112),
  (.idx (.x 6) (i6 6), u1 112),
  (.idx (.x 6) (i6 7), u1 112),
  (.idx (.x 6) (i6 8), .x 7),
  (.bin .geq (.x 7) (u1 97), .b true),
  (.bin .leq (.x 7) (u1 122), .b false)]
theorem run135 : okB (call (tbl hy135) 9000 7 [.x 0, .x 1, .x 2] ⟨H0 , 7, 0, 0⟩) = true := by kernel_rfl
def nu135 (n pos chr : Int) : List Value := [.int .u8 (n),
  .int .u8 (pos),
  .int .u8 (chr),
  .int .i64 (pos),
  St' ([u8 46, u8 112, u8 112, u8 112, u8 112, u8 112, u8 112, u8 112, u8 112, u8 (chr)]),
  St' ([u8 46]),
  St' ([u8 112, u8 112, u8 112, u8 112, u8 112, u8 112, u8 112, u8 112, u8 (chr)]),
  .int .u8 (chr)]
theorem path135 (n pos chr : Int) (bb : BB n pos chr) (h0 : n % 11 = 9) (h1 : pos % 9 = 8) (h2 : 97 ≤ chr) (h3 : ¬ (chr ≤ 122)) (w : World) (hl : laidE w) : Cw #[.int .u8 n, .int .u8 pos, .int .u8 chr] w := by
  obtain ⟨fi, hfi, hb⟩ := fiE
  refine runP (tb := tbl hy135) ((tabkOk (nuL (nu135 n pos chr)) (nuL_one (l := nu135 n pos chr) rfl)).hyps ?_) rfl hfi hb (run135 ) (args := [.int .u8 n, .int .u8 pos, .int .u8 chr]) (by simp only [RelL, Rel]; exact ⟨_, _, rfl, rfl, ⟨_, _, rfl, rfl, ⟨_, _, rfl, rfl, rfl⟩⟩⟩) w hl
  obtain ⟨b0, b1, b2, b3, b4, b5⟩ := bb
  unfold hy135
  refine hcons (kRem (isX rfl) (isZ (m := 11) rfl) (denZ (m := 9) rfl) (by omega) (by omega) (by omega)) ?_
  refine hcons (kConvF (isX rfl) tu3 (denX rfl) (fI64 (by omega) (by omega))) ?_
  refine hcons (kRem (isX rfl) (isZ (m := 9) rfl) (denZ (m := 8) rfl) (by omega) (by omega) (by omega)) ?_
  refine hcons (kBytesB (bs := [u8 46, u8 112, u8 112, u8 112, u8 112, u8 112, u8 112, u8 112, u8 112, u8 (chr)]) (bC (by omega) (bC (by omega) (bC (by omega) (bC (by omega) (bC (by omega) (bC (by omega) (bC (by omega) (bC (by omega) (bC (by omega) (.cons (isB8 (isX rfl) (by omega) (by omega)) .nil)))))))))) (denX rfl)) ?_
  refine hcons (kLenE (isX rfl) (denZ (m := 10) rfl) rfl) ?_
  refine hcons (kMid (P := 0) (Q := 1) (isX rfl) (.inl ⟨rfl, rfl⟩) (.inr ⟨_, _, rfl, (isZ (m := 1) rfl)⟩) (by omega) (by omega) (by simp) (denX rfl)) ?_
  refine hcons (kEqS (isX rfl) (isSx (l := [u8 46]) 1 46 rfl) (decide_eq_true rfl)) ?_
  refine hcons (kMid (P := 1) (Q := 10) (isX rfl) (.inr ⟨_, _, rfl, (isZ (m := 1) rfl)⟩) (.inl ⟨rfl, rfl⟩) (by omega) (by omega) (by simp) (denX rfl)) ?_
  refine hcons (kLenE (isX rfl) (denZ (m := 9) rfl) rfl) ?_
  refine hcons (kIdxC (isX rfl) (by simp) rfl (by omega)) ?_
  refine hcons (kIdxC (isX rfl) (by simp) rfl (by omega)) ?_
  refine hcons (kIdxC (isX rfl) (by simp) rfl (by omega)) ?_
  refine hcons (kIdxC (isX rfl) (by simp) rfl (by omega)) ?_
  refine hcons (kIdxC (isX rfl) (by simp) rfl (by omega)) ?_
  refine hcons (kIdxC (isX rfl) (by simp) rfl (by omega)) ?_
  refine hcons (kIdxC (isX rfl) (by simp) rfl (by omega)) ?_
  refine hcons (kIdxC (isX rfl) (by simp) rfl (by omega)) ?_
  refine hcons (kIdxE (i := 8) (isX rfl) (isZ (m := 8) rfl) (denX rfl) rfl (by simp) (bt_at rfl (by omega) (by omega))) ?_
  refine hcons (kGe (isX rfl) (isZ (m := 97) rfl) (decide_eq_true (by omega))) ?_
  refine hcons (kLe (isX rfl) (isZ (m := 122) rfl) (decide_eq_false (by omega))) ?_
  exact hnil
def hy136 : List (HK × AV) := [(.bin .rem (.x 0) (u1 11), u1 10),
  (.conv 3 (.x 1), .x 3),
  (.bin .rem (.x 3) (i6 10), i6 0),
  (.bytes [u1 46, .x 2, u1 112, u1 112, u1 112, u1 112, u1 112, u1 112, u1 112, u1 112, u1 112], .x 4),
  (.len (.x 4), i6 11),
  (.sub (.x 4) none (some (i6 1)), .x 5),
  (.bin .eql (.x 5) (.s 1 46), .b true),
  (.sub (.x 4) (some (i6 1)) none, .x 6),
  (.len (.x 6), i6 10),
  (.idx (.x 6) (i6 0), .x 7),
  (.bin .geq (.x 7) (u1 97), .b false)]
theorem run136 : okB (call (tbl hy136) 9000 7 [.x 0, .x 1, .x 2] ⟨H0 , 7, 0, 0⟩) = true := by kernel_rfl
def nu136 (n pos chr : Int) : List Value := [.int .u8 (n),
  .int .u8 (pos),
  .int .u8 (chr),
  .int .i64 (pos),
  St' ([u8 46, u8 (chr), u8 112, u8 112, u8 112, u8 112, u8 112, u8 112, u8 112, u8 112, u8 112]),
  St' ([u8 46]),
  St' ([u8 (chr), u8 112, u8 112, u8 112, u8 112, u8 112, u8 112, u8 112, u8 112, u8 112]),
  .int .u8 (chr)]
theorem path136 (n pos chr : Int) (bb : BB n pos chr) (h0 : n % 11 = 10) (h1 : pos % 10 = 0) (h2 : ¬ (97 ≤ chr)) (w : World) (hl : laidE w) : Cw #[.int .u8 n, .int .u8 pos, .int .u8 chr] w := by
  obtain ⟨fi, hfi, hb⟩ := fiE
  refine runP (tb := tbl hy136) ((tabkOk (nuL (nu136 n pos chr)) (nuL_one (l := nu136 n pos chr) rfl)).hyps ?_) rfl hfi hb (run136 ) (args := [.int .u8 n, .int .u8 pos, .int .u8 chr]) (by simp only [RelL, Rel]; exact ⟨_, _, rfl, rfl, ⟨_, _, rfl, rfl, ⟨_, _, rfl, rfl, rfl⟩⟩⟩) w hl
  obtain ⟨b0, b1, b2, b3, b4, b5⟩ := bb
  unfold hy136
  refine hcons (kRem (isX rfl) (isZ (m := 11) rfl) (denZ (m := 10) rfl) (by omega) (by omega) (by omega)) ?_
  refine hcons (kConvF (isX rfl) tu3 (denX rfl) (fI64 (by omega) (by omega))) ?_
  refine hcons (kRem (isX rfl) (isZ (m := 10) rfl) (denZ (m := 0) rfl) (by omega) (by omega) (by omega)) ?_
  refine hcons (kBytesB (bs := [u8 46, u8 (chr), u8 112, u8 112, u8 112, u8 112, u8 112, u8 112, u8 112, u8 112, u8 112]) (bC (by omega) (.cons (isB8 (isX rfl) (by omega) (by omega)) (bC (by omega) (bC (by omega) (bC (by omega) (bC (by omega) (bC (by omega) (bC (by omega) (bC (by omega) (bC (by omega) (bC (by omega) .nil))))))))))) (denX rfl)) ?_
  refine hcons (kLenE (isX rfl) (denZ (m := 11) rfl) rfl) ?_
  refine hcons (kMid (P := 0) (Q := 1) (isX rfl) (.inl ⟨rfl, rfl⟩) (.inr ⟨_, _, rfl, (isZ (m := 1) rfl)⟩) (by omega) (by omega) (by simp) (denX rfl)) ?_
  refine hcons (kEqS (isX rfl) (isSx (l := [u8 46]) 1 46 rfl) (decide_eq_true rfl)) ?_
  refine hcons (kMid (P := 1) (Q := 11) (isX rfl) (.inr ⟨_, _, rfl, (isZ (m := 1) rfl)⟩) (.inl ⟨rfl, rfl⟩) (by omega) (by omega) (by simp) (denX rfl)) ?_
  refine hcons (kLenE (isX rfl) (denZ (m := 10) rfl) rfl) ?_
  refine hcons (kIdxE (i := 0) (isX rfl) (isZ (m := 0) rfl) (denX rfl) rfl (by simp) (bt_at rfl (by omega) (by omega))) ?_
  refine hcons (kGe (isX rfl) (isZ (m := 97) rfl) (decide_eq_false (by omega))) ?_
  exact hnil
def hy137 : List (HK × AV) := [(.bin .rem (.x 0) (u1 11), u1 10),
  (.conv 3 (.x 1), .x 3),
  (.bin .rem (.x 3) (i6 10), i6 0),
  (.bytes [u1 46, .x 2, u1 112, u1 112, u1 112, u1 112, u1 112, u1 112, u1 112, u1 112, u1 112], .x 4),
  (.len (.x 4), i6 11),
  (.sub (.x 4) none (some (i6 1)), .x 5),
  (.bin .eql (.x 5) (.s 1 46), .b true),
  (.sub (.x 4) (some (i6 1)) none, .x 6),
  (.len (.x 6), i6 10),
  (.idx (.x 6) (i6 0), .x 7),
  (.bin .geq (.x 7) (u1 97), .b true),
  (.bin .leq (.x 7) (u1 122), .b true),
  (.idx (.x 6) (i6 1), u1 112),
  (.idx (.x 6) (i6 2), u1 112),
  (.idx (.x 6) (i6 3), u1 112),
  (.idx (.x 6) (i6 4), u1 112),
  (.idx (.x 6) (i6 5), u1 112),
  (.idx (.x 6) (i6 6), u1 112),
  (.idx (.x 6) (i6 7), u1 112),
  (.idx (.x 6) (i6 8), u1 112),
  (.idx (.x 6) (i6 9), u1 112),
  (.bin .neq (.x 6) (.s 0 0), .b true)]
theorem run137 : okB (call (tbl hy137) 9000 7 [.x 0, .x 1, .x 2] ⟨H0 , 7, 0, 0⟩) = true := by kernel_rfl
def nu137 (n pos chr : Int) : List Value := [.int .u8 (n),
  .int .u8 (pos),
  .int .u8 (chr),
  .int .i64 (pos),
  St' ([u8 46, u8 (chr), u8 112, u8 112, u8 112, u8 112, u8 112, u8 112, u8 112, u8 112, u8 112]),
  St' ([u8 46]),
  St' ([u8 (chr), u8 112, u8 112, u8 112, u8 112, u8 112, u8 112, u8 112, u8 112, u8 112]),
  .int .u8 (chr)]
theorem path137 (n pos chr : Int) (bb : BB n pos chr) (h0 : n % 11 = 10) (h1 : pos % 10 = 0) (h2 : 97 ≤ chr) (h3 : chr ≤ 122) (w : World) (hl : laidE w) : Cw #[.int .u8 n, .int .u8 pos, .int .u8 chr] w := by
  obtain ⟨fi, hfi, hb⟩ := fiE
  refine runP (tb := tbl hy137) ((tabkOk (nuL (nu137 n pos chr)) (nuL_one (l := nu137 n pos chr) rfl)).hyps ?_) rfl hfi hb (run137 ) (args := [.int .u8 n, .int .u8 pos, .int .u8 chr]) (by simp only [RelL, Rel]; exact ⟨_, _, rfl, rfl, ⟨_, _, rfl, rfl, ⟨_, _, rfl, rfl, rfl⟩⟩⟩) w hl
  obtain ⟨b0, b1, b2, b3, b4, b5⟩ := bb
  unfold hy137
  refine hcons (kRem (isX rfl) (isZ (m := 11) rfl) (denZ (m := 10) rfl) (by omega) (by omega) (by omega)) ?_
  refine hcons (kConvF (isX rfl) tu3 (denX rfl) (fI64 (by omega) (by omega))) ?_
  refine hcons (kRem (isX rfl) (isZ (m := 10) rfl) (denZ (m := 0) rfl) (by omega) (by omega) (by omega)) ?_
  refine hcons (kBytesB (bs := [u8 46, u8 (chr), u8 112, u8 112, u8 112, u8 112, u8 112, u8 112, u8 112, u8 112, u8 112]) (bC (by omega) (.cons (isB8 (isX rfl) (by omega) (by omega)) (bC (by omega) (bC (by omega) (bC (by omega) (bC (by omega) (bC (by omega) (bC (by omega) (bC (by omega) (bC (by omega) (bC (by omega) .nil))))))))))) (denX rfl)) ?_
  refine hcons (kLenE (isX rfl) (denZ (m := 11) rfl) rfl) ?_
  refine hcons (kMid (P := 0) (Q := 1) (isX rfl) (.inl ⟨rfl, rfl⟩) (.inr ⟨_, _, rfl, (isZ (m := 1) rfl)⟩) (by omega) (by omega) (by simp) (denX rfl)) ?_
  refine hcons (kEqS (isX rfl) (isSx (l := [u8 46]) 1 46 rfl) (decide_eq_true rfl)) ?_
  refine hcons (kMid (P := 1) (Q := 11) (isX rfl) (.inr ⟨_, _, rfl, (isZ (m := 1) rfl)⟩) (.inl ⟨rfl, rfl⟩) (by omega) (by omega) (by simp) (denX rfl)) ?_
  refine hcons (kLenE (isX rfl) (denZ (m := 10) rfl) rfl) ?_
  refine hcons (kIdxE (i := 0) (isX rfl) (isZ (m := 0) rfl) (denX rfl) rfl (by simp) (bt_at rfl (by omega) (by omega))) ?_
  refine hcons (kGe (isX rfl) (isZ (m := 97) rfl) (decide_eq_true (by omega))) ?_
  refine hcons (kLe (isX rfl) (isZ (m := 122) rfl) (decide_eq_true (by omega))) ?_
  refine hcons (kIdxC (isX rfl) (by simp) rfl (by omega)) ?_
  refine hcons (kIdxC (isX rfl) (by simp) rfl (by omega)) ?_
  refine hcons (kIdxC (isX rfl) (by simp) rfl (by omega)) ?_
  refine hcons (kIdxC (isX rfl) (by simp) rfl (by omega)) ?_
  refine hcons (kIdxC (isX rfl) (by simp) rfl (by omega)) ?_
  refine hcons (kIdxC (isX rfl) (by simp) rfl (by omega)) ?_
  refine hcons (kIdxC (isX rfl) (by simp) rfl (by omega)) ?_
  refine hcons (kIdxC (isX rfl) (by simp) rfl (by omega)) ?_
  refine hcons (kIdxC (isX rfl) (by simp) rfl (by omega)) ?_
  refine hcons (kNeS (isX rfl) (isSx (l := ([] : List UInt8)) 0 0 rfl) (bnT (by first | exact nilT (by first | omega | (simp only [List.length_append, List.length_cons, List.length_nil, List.length_take, List.length_drop, List.length_replicate, Int.natCast_add] at * <;> omega)) | exact nilF (by first | omega | (simp only [List.length_append, List.length_cons, List.length_nil, List.length_take, List.length_drop, List.length_replicate, Int.natCast_add] at * <;> omega)) | exact nilT' (by first | omega | (simp only [List.length_append, List.length_cons, List.length_nil, List.length_take, List.length_drop, List.length_replicate, Int.natCast_add] at * <;> omega)) | exact nilF' (by first | omega | (simp only [List.length_append, List.length_cons, List.length_nil, List.length_take, List.length_drop, List.length_replicate, Int.natCast_add] at * <;> omega))))) ?_
  exact hnil
def hy138 : List (HK × AV) := [(.bin .rem (.x 0) (u1 11), u1 10),
  (.conv 3 (.x 1), .x 3),
  (.bin .rem (.x 3) (i6 10), i6 0),
  (.bytes [u1 46, .x 2, u1 112, u1 112, u1 112, u1 112, u1 112, u1 112, u1 112, u1 112, u1 112], .x 4),
  (.len (.x 4), i6 11),
  (.sub (.x 4) none (some (i6 1)), .x 5),
  (.bin .eql (.x 5) (.s 1 46), .b true),
  (.sub (.x 4) (some (i6 1)) none, .x 6),
  (.len (.x 6), i6 10),
  (.idx (.x 6) (i6 0), .x 7),
  (.bin .geq (.x 7) (u1 97), .b true),
  (.bin .leq (.x 7) (u1 122), .b false)]
theorem run138 : okB (call (tbl hy138) 9000 7 [.x 0, .x 1, .x 2] ⟨H0 , 7, 0, 0⟩) = true := by kernel_rfl
def nu138 (n pos chr : Int) : List Value := [.int .u8 (n),
  .int .u8 (pos),
  .int .u8 (chr),
  .int .i64 (pos),
  St' ([u8 46, u8 (chr), u8 112, u8 112, u8 112, u8 112, u8 112, u8 112, u8 112, u8 112, u8 112]),
  St' ([u8 46]),
  St' ([u8 (chr), u8 112, u8 112, u8 112, u8 112, u8 112, u8 112, u8 112, u8 112, u8 112]),
  .int .u8 (chr)]
theorem path138 (n pos chr : Int) (bb : BB n pos chr) (h0 : n % 11 = 10) (h1 : pos % 10 = 0) (h2 : 97 ≤ chr) (h3 : ¬ (chr ≤ 122)) (w : World) (hl : laidE w) : Cw #[.int .u8 n, .int .u8 pos, .int .u8 chr] w := by
  obtain ⟨fi, hfi, hb⟩ := fiE
  refine runP (tb := tbl hy138) ((tabkOk (nuL (nu138 n pos chr)) (nuL_one (l := nu138 n pos chr) rfl)).hyps ?_) rfl hfi hb (run138 ) (args := [.int .u8 n, .int .u8 pos, .int .u8 chr]) (by simp only [RelL, Rel]; exact ⟨_, _, rfl, rfl, ⟨_, _, rfl, rfl, ⟨_, _, rfl, rfl, rfl⟩⟩⟩) w hl
  obtain ⟨b0, b1, b2, b3, b4, b5⟩ := bb
  unfold hy138
  refine hcons (kRem (isX rfl) (isZ (m := 11) rfl) (denZ (m := 10) rfl) (by omega) (by omega) (by omega)) ?_
  refine hcons (kConvF (isX rfl) tu3 (denX rfl) (fI64 (by omega) (by omega))) ?_
  refine hcons (kRem (isX rfl) (isZ (m := 10) rfl) (denZ (m := 0) rfl) (by omega) (by omega) (by omega)) ?_
  refine hcons (kBytesB (bs := [u8 46, u8 (chr), u8 112, u8 112, u8 112, u8 112, u8 112, u8 112, u8 112, u8 112, u8 112]) (bC (by omega) (.cons (isB8 (isX rfl) (by omega) (by omega)) (bC (by omega) (bC (by omega) (bC (by omega) (bC (by omega) (bC (by omega) (bC (by omega) (bC (by omega) (bC (by omega) (bC (by omega) .nil))))))))))) (denX rfl)) ?_
  refine hcons (kLenE (isX rfl) (denZ (m := 11) rfl) rfl) ?_
  refine hcons (kMid (P := 0) (Q := 1) (isX rfl) (.inl ⟨rfl, rfl⟩) (.inr ⟨_, _, rfl, (isZ (m := 1) rfl)⟩) (by omega) (by omega) (by simp) (denX rfl)) ?_
  refine hcons (kEqS (isX rfl) (isSx (l := [u8 46]) 1 46 rfl) (decide_eq_true rfl)) ?_
  refine hcons (kMid (P := 1) (Q := 11) (isX rfl) (.inr ⟨_, _, rfl, (isZ (m := 1) rfl)⟩) (.inl ⟨rfl, rfl⟩) (by omega) (by omega) (by simp) (denX rfl)) ?_
  refine hcons (kLenE (isX rfl) (denZ (m := 10) rfl) rfl) ?_
  refine hcons (kIdxE (i := 0) (isX rfl) (isZ (m := 0) rfl) (denX rfl) rfl (by simp) (bt_at rfl (by omega) (by omega))) ?_
  refine hcons (kGe (isX rfl) (isZ (m := 97) rfl) (decide_eq_true (by omega))) ?_
  refine hcons (kLe (isX rfl) (isZ (m := 122) rfl) (decide_eq_false (by omega))) ?_
  exact hnil
def hy139 : List (HK × AV) := [(.bin .rem (.x 0) (u1 11), u1 10),
  (.conv 3 (.x 1), .x 3),
  (.bin .rem (.x 3) (i6 10), i6 1),
  (.bytes [u1 46, u1 112, .x 2, u1 112, u1 112, u1 112, u1 112, u1 112, u1 112, u1 112, u1 112], .x 4),
  (.len (.x 4), i6 11),
  (.sub (.x 4) none (some (i6 1)), .x 5),
  (.bin .eql (.x 5) (.s 1 46), .b true),
  (.sub (.x 4) (some (i6 1)) none, .x 6),
  (.len (.x 6), i6 10),
  (.idx (.x 6) (i6 0), u1 112),
  (.idx (.x 6) (i6 1), .x 7),
  (.bin .geq (.x 7) (u1 97), .b false)]
theorem run139 : okB (call (tbl hy139) 9000 7 [.x 0, .x 1, .x 2] ⟨H0 , 7, 0, 0⟩) = true := by kernel_rfl
def nu139 (n pos chr : Int) : List Value := [.int .u8 (n),
  .int .u8 (pos),
  .int .u8 (chr),
  .int .i64 (pos),
  St' ([u8 46, u8 112, u8 (chr), u8 112, u8 112, u8 112, u8 112, u8 112, u8 112, u8 112, u8 112]),
  St' ([u8 46]),
  St' ([u8 112, u8 (chr), u8 112, u8 112, u8 112, u8 112, u8 112, u8 112, u8 112, u8 112]),
  .int .u8 (chr)]
theorem path139 (n pos chr : Int) (bb : BB n pos chr) (h0 : n % 11 = 10) (h1 : pos % 10 = 1) (h2 : ¬ (97 ≤ chr)) (w : World) (hl : laidE w) : Cw #[.int .u8 n, .int .u8 pos, .int .u8 chr] w := by
  obtain ⟨fi, hfi, hb⟩ := fiE
  refine runP (tb := tbl hy139) ((tabkOk (nuL (nu139 n pos chr)) (nuL_one (l := nu139 n pos chr) rfl)).hyps ?_) rfl hfi hb (run139 ) (args := [.int .u8 n, .int .u8 pos, .int .u8 chr]) (by simp only [RelL, Rel]; exact ⟨_, _, rfl, rfl, ⟨_, _, rfl, rfl, ⟨_, _, rfl, rfl, rfl⟩⟩⟩) w hl
  obtain ⟨b0, b1, b2, b3, b4, b5⟩ := bb
  unfold hy139
  refine hcons (kRem (isX rfl) (isZ (m := 11) rfl) (denZ (m := 10) rfl) (by omega) (by omega) (by omega)) ?_
  refine hcons (kConvF (isX rfl) tu3 (denX rfl) (fI64 (by omega) (by omega))) ?_
  refine hcons (kRem (isX rfl) (isZ (m := 10) rfl) (denZ (m := 1) rfl) (by omega) (by omega) (by omega)) ?_
  refine hcons (kBytesB (bs := [u8 46, u8 112, u8 (chr), u8 112, u8 112, u8 112, u8 112, u8 112, u8 112, u8 112, u8 112]) (bC (by omega) (bC (by omega) (.cons (isB8 (isX rfl) (by omega) (by omega)) (bC (by omega) (bC (by omega) (bC (by omega) (bC (by omega) (bC (by omega) (bC (by omega) (bC (by omega) (bC (by omega) .nil))))))))))) (denX rfl)) ?_
  refine hcons (kLenE (isX rfl) (denZ (m := 11) rfl) rfl) ?_
  refine hcons (kMid (P := 0) (Q := 1) (isX rfl) (.inl ⟨rfl, rfl⟩) (.inr ⟨_, _, rfl, (isZ (m := 1) rfl)⟩) (by omega) (by omega) (by simp) (denX rfl)) ?_
  refine hcons (kEqS (isX rfl) (isSx (l := [u8 46]) 1 46 rfl) (decide_eq_true rfl)) ?_
  refine hcons (kMid (P := 1) (Q := 11) (isX rfl) (.inr ⟨_, _, rfl, (isZ (m := 1) rfl)⟩) (.inl ⟨rfl, rfl⟩) (by omega) (by omega) (by simp) (denX rfl)) ?_
  refine hcons (kLenE (isX rfl) (denZ (m := 10) rfl) rfl) ?_
  refine hcons (kIdxC (isX rfl) (by simp) rfl (by omega)) ?_
  refine hcons (kIdxE (i := 1) (isX rfl) (isZ (m := 1) rfl) (denX rfl) rfl (by simp) (bt_at rfl (by omega) (by omega))) ?_
  refine hcons (kGe (isX rfl) (isZ (m := 97) rfl) (decide_eq_false (by omega))) ?_
  exact hnil
def hy140 : List (HK × AV) := [(.bin .rem (.x 0) (u1 11), u1 10),
  (.conv 3 (.x 1), .x 3),
  (.bin .rem (.x 3) (i6 10), i6 1),
  (.bytes [u1 46, u1 112, .x 2, u1 112, u1 112, u1 112, u1 112, u1 112, u1 112, u1 112, u1 112], .x 4),
  (.len (.x 4), i6 11),
  (.sub (.x 4) none (some (i6 1)), .x 5),
  (.bin .eql (.x 5) (.s 1 46), .b true),
  (.sub (.x 4) (some (i6 1)) none, .x 6),
  (.len (.x 6), i6 10),
  (.idx (.x 6) (i6 0), u1 112),
  (.idx (.x 6) (i6 1), .x 7),
  (.bin .geq (.x 7) (u1 97), .b true),
  (.bin .leq (.x 7) (u1 122), .b true),
  (.idx (.x 6) (i6 2), u1 112),
  (.idx (.x 6) (i6 3), u1 112),
  (.idx (.x 6) (i6 4), u1 112),
  (.idx (.x 6) (i6 5), u1 112),
  (.idx (.x 6) (i6 6), u1 112),
  (.idx (.x 6) (i6 7), u1 112),
  (.idx (.x 6) (i6 8), u1 112),
  (.idx (.x 6) (i6 9), u1 112),
  (.bin .neq (.x 6) (.s 0 0), .b true)]
theorem run140 : okB (call (tbl hy140) 9000 7 [.x 0, .x 1, .x 2] ⟨H0 , 7, 0, 0⟩) = true := by kernel_rfl
def nu140 (n pos chr : Int) : List Value := [.int .u8 (n),
  .int .u8 (pos),
  .int .u8 (chr),
  .int .i64 (pos),
  St' ([u8 46, u8 112, u8 (chr), u8 112, u8 112, u8 112, u8 112, u8 112, u8 112, u8 112, u8 112]),
  St' ([u8 46]),
  St' ([u8 112, u8 (chr), u8 112, u8 112, u8 112, u8 112, u8 112, u8 112, u8 112, u8 112]),
  .int .u8 (chr)]
theorem path140 (n pos chr : Int) (bb : BB n pos chr) (h0 : n % 11 = 10) (h1 : pos % 10 = 1) (h2 : 97 ≤ chr) (h3 : chr ≤ 122) (w : World) (hl : laidE w) : Cw #[.int .u8 n, .int .u8 pos, .int .u8 chr] w := by
  obtain ⟨fi, hfi, hb⟩ := fiE
  refine runP (tb := tbl hy140) ((tabkOk (nuL (nu140 n pos chr)) (nuL_one (l := nu140 n pos chr) rfl)).hyps ?_) rfl hfi hb (run140 ) (args := [.int .u8 n, .int .u8 pos, .int .u8 chr]) (by simp only [RelL, Rel]; exact ⟨_, _, rfl, rfl, ⟨_, _, rfl, rfl, ⟨_, _, rfl, rfl, rfl⟩⟩⟩) w hl
  obtain ⟨b0, b1, b2, b3, b4, b5⟩ := bb
  unfold hy140
  refine hcons (kRem (isX rfl) (isZ (m := 11) rfl) (denZ (m := 10) rfl) (by omega) (by omega) (by omega)) ?_
  refine hcons (kConvF (isX rfl) tu3 (denX rfl) (fI64 (by omega) (by omega))) ?_
  refine hcons (kRem (isX rfl) (isZ (m := 10) rfl) (denZ (m := 1) rfl) (by omega) (by omega) (by omega)) ?_
  refine hcons (kBytesB (bs := [u8 46, u8 112, u8 (chr), u8 112, u8 112, u8 112, u8 112, u8 112, u8 112, u8 112, u8 112]) (bC (by omega) (bC (by omega) (.cons (isB8 (isX rfl) (by omega) (by omega)) (bC (by omega) (bC (by omega) (bC (by omega) (bC (by omega) (bC (by omega) (bC (by omega) (bC (by omega) (bC (by omega) .nil))))))))))) (denX rfl)) ?_
  refine hcons (kLenE (isX rfl) (denZ (m := 11) rfl) rfl) ?_
  refine hcons (kMid (P := 0) (Q := 1) (isX rfl) (.inl ⟨rfl, rfl⟩) (.inr ⟨_, _, rfl, (isZ (m := 1) rfl)⟩) (by omega) (by omega) (by simp) (denX rfl)) ?_
  refine hcons (kEqS (isX rfl) (isSx (l := [u8 46]) 1 46 rfl) (decide_eq_true rfl)) ?_
  refine hcons (kMid (P := 1) (Q := 11) (isX rfl) (.inr ⟨_, _, rfl, (isZ (m := 1) rfl)⟩) (.inl ⟨rfl, rfl⟩) (by omega) (by omega) (by simp) (denX rfl)) ?_
  refine hcons (kLenE (isX rfl) (denZ (m := 10) rfl) rfl) ?_
  refine hcons (kIdxC (isX rfl) (by simp) rfl (by omega)) ?_
  refine hcons (kIdxE (i := 1) (isX rfl) (isZ (m := 1) rfl) (denX rfl) rfl (by simp) (bt_at rfl (by omega) (by omega))) ?_
  refine hcons (kGe (isX rfl) (isZ (m := 97) rfl) (decide_eq_true (by omega))) ?_
  refine hcons (kLe (isX rfl) (isZ (m := 122) rfl) (decide_eq_true (by omega))) ?_
  refine hcons (kIdxC (isX rfl) (by simp) rfl (by omega)) ?_
  refine hcons (kIdxC (isX rfl) (by simp) rfl (by omega)) ?_
  refine hcons (kIdxC (isX rfl) (by simp) rfl (by omega)) ?_
  refine hcons (kIdxC (isX rfl) (by simp) rfl (by omega)) ?_
  refine hcons (kIdxC (isX rfl) (by simp) rfl (by omega)) ?_
  refine hcons (kIdxC (isX rfl) (by simp) rfl (by omega)) ?_
  refine hcons (kIdxC (isX rfl) (by simp) rfl (by omega)) ?_
  refine hcons (kIdxC (isX rfl) (by simp) rfl (by omega)) ?_
  refine hcons (kNeS (isX rfl) (isSx (l := ([] : List UInt8)) 0 0 rfl) (bnT (by first | exact nilT (by first | omega | (simp only [List.length_append, List.length_cons, List.length_nil, List.length_take, List.length_drop, List.length_replicate, Int.natCast_add] at * <;> omega)) | exact nilF (by first | omega | (simp only [List.length_append, List.length_cons, List.length_nil, List.length_take, List.length_drop, List.length_replicate, Int.natCast_add] at * <;> omega)) | exact nilT' (by first | omega | (simp only [List.length_append, List.length_cons, List.length_nil, List.length_take, List.length_drop, List.length_replicate, Int.natCast_add] at * <;> omega)) | exact nilF' (by first | omega | (simp only [List.length_append, List.length_cons, List.length_nil, List.length_take, List.length_drop, List.length_replicate, Int.natCast_add] at * <;> omega))))) ?_
  exact hnil
def hy141 : List (HK × AV) := [(.bin .rem (.x 0) (u1 11), u1 10),
  (.conv 3 (.x 1), .x 3),
  (.bin .rem (.x 3) (i6 10), i6 1),
  (.bytes [u1 46, u1 112, .x 2, u1 112, u1 112, u1 112, u1 112, u1 112, u1 112, u1 112, u1 112], .x 4),
  (.len (.x 4), i6 11),
  (.sub (.x 4) none (some (i6 1)), .x 5),
  (.bin .eql (.x 5) (.s 1 46), .b true),
  (.sub (.x 4) (some (i6 1)) none, .x 6),
  (.len (.x 6), i6 10),
  (.idx (.x 6) (i6 0), u1 112),
  (.idx (.x 6) (i6 1), .x 7),
  (.bin .geq (.x 7) (u1 97), .b true),
  (.bin .leq (.x 7) (u1 122), .b false)]
theorem run141 : okB (call (tbl hy141) 9000 7 [.x 0, .x 1, .x 2] ⟨H0 , 7, 0, 0⟩) = true := by kernel_rfl
def nu141 (n pos chr : Int) : List Value := [.int .u8 (n),
  .int .u8 (pos),
  .int .u8 (chr),
  .int .i64 (pos),
  St' ([u8 46, u8 112, u8 (chr), u8 112, u8 112, u8 112, u8 112, u8 112, u8 112, u8 112, u8 112]),
  St' ([u8 46]),
  St' ([u8 112, u8 (chr), u8 112, u8 112, u8 112, u8 112, u8 112, u8 112, u8 112, u8 112]),
  .int .u8 (chr)]
theorem path141 (n pos chr : Int) (bb : BB n pos chr) (h0 : n % 11 = 10) (h1 : pos % 10 = 1) (h2 : 97 ≤ chr) (h3 : ¬ (chr ≤ 122)) (w : World) (hl : laidE w) : Cw #[.int .u8 n, .int .u8 pos, .int .u8 chr] w := by
  obtain ⟨fi, hfi, hb⟩ := fiE
  refine runP (tb := tbl hy141) ((tabkOk (nuL (nu141 n pos chr)) (nuL_one (l := nu141 n pos chr) rfl)).hyps ?_) rfl hfi hb (run141 ) (args := [.int .u8 n, .int .u8 pos, .int .u8 chr]) (by simp only [RelL, Rel]; exact ⟨_, _, rfl, rfl, ⟨_, _, rfl, rfl, ⟨_, _, rfl, rfl, rfl⟩⟩⟩) w hl
  obtain ⟨b0, b1, b2, b3, b4, b5⟩ := bb
  unfold hy141
  refine hcons (kRem (isX rfl) (isZ (m := 11) rfl) (denZ (m := 10) rfl) (by omega) (by omega) (by omega)) ?_
  refine hcons (kConvF (isX rfl) tu3 (denX rfl) (fI64 (by omega) (by omega))) ?_
  refine hcons (kRem (isX rfl) (isZ (m := 10) rfl) (denZ (m := 1) rfl) (by omega) (by omega) (by omega)) ?_
  refine hcons (kBytesB (bs := [u8 46, u8 112, u8 (chr), u8 112, u8 112, u8 112, u8 112, u8 112, u8 112, u8 112, u8 112]) (bC (by omega) (bC (by omega) (.cons (isB8 (isX rfl) (by omega) (by omega)) (bC (by omega) (bC (by omega) (bC (by omega) (bC (by omega) (bC (by omega) (bC (by omega) (bC (by omega) (bC (by omega) .nil))))))))))) (denX rfl)) ?_
  refine hcons (kLenE (isX rfl) (denZ (m := 11) rfl) rfl) ?_
  refine hcons (kMid (P := 0) (Q := 1) (isX rfl) (.inl ⟨rfl, rfl⟩) (.inr ⟨_, _, rfl, (isZ (m := 1) rfl)⟩) (by omega) (by omega) (by simp) (denX rfl)) ?_
  refine hcons (kEqS (isX rfl) (isSx (l := [u8 46]) 1 46 rfl) (decide_eq_true rfl)) ?_
  refine hcons (kMid (P := 1) (Q := 11) (isX rfl) (.inr ⟨_, _, rfl, (isZ (m := 1) rfl)⟩) (.inl ⟨rfl, rfl⟩) (by omega) (by omega) (by simp) (denX rfl)) ?_
  refine hcons (kLenE (isX rfl) (denZ (m := 10) rfl) rfl) ?_
  refine hcons (kIdxC (isX rfl) (by simp) rfl (by omega)) ?_
  refine hcons (kIdxE (i := 1) (isX rfl) (isZ (m := 1) rfl) (denX rfl) rfl (by simp) (bt_at rfl (by omega) (by omega))) ?_
  refine hcons (kGe (isX rfl) (isZ (m := 97) rfl) (decide_eq_true (by omega))) ?_
  refine hcons (kLe (isX rfl) (isZ (m := 122) rfl) (decide_eq_false (by omega))) ?_
  exact hnil
def hy142 : List (HK × AV) := [(.bin .rem (.x 0) (u1 11), u1 10),
  (.conv 3 (.x 1), .x 3),
  (.bin .rem (.x 3) (i6 10), i6 2),
  (.bytes [u1 46, u1 112, u1 112, .x 2, u1 112, u1 112, u1 112, u1 112, u1 112, u1 112, u1 112], .x 4),
  (.len (.x 4), i6 11),
  (.sub (.x 4) none (some (i6 1)), .x 5),
  (.bin .eql (.x 5) (.s 1 46), .b true),
  (.sub (.x 4) (some (i6 1)) none, .x 6),
  (.len (.x 6), i6 10),
  (.idx (.x 6) (i6 0), u1 112),
  (.idx (.x 6) (i6 1), u1 112),
  (.idx (.x 6) (i6 2), .x 7),
  (.bin .geq (.x 7) (u1 97), .b false)]
theorem run142 : okB (call (tbl hy142) 9000 7 [.x 0, .x 1, .x 2] ⟨H0 , 7, 0, 0⟩) = true := by kernel_rfl
def nu142 (n pos chr : Int) : List Value := [.int .u8 (n),
  .int .u8 (pos),
  .int .u8 (chr),
  .int .i64 (pos),
  St' ([u8 46, u8 112, u8 112, u8 (chr), u8 112, u8 112, u8 112, u8 112, u8 112, u8 112, u8 112]),
  St' ([u8 46]),
  St' ([u8 112, u8 112, u8 (chr), u8 112, u8 112, u8 112, u8 112, u8 112, u8 112, u8 112]),
  .int .u8 (chr)]
theorem path142 (n pos chr : Int) (bb : BB n pos chr) (h0 : n % 11 = 10) (h1 : pos % 10 = 2) (h2 : ¬ (97 ≤ chr)) (w : World) (hl : laidE w) : Cw #[.int .u8 n, .int .u8 pos, .int .u8 chr] w := by
  obtain ⟨fi, hfi, hb⟩ := fiE
  refine runP (tb := tbl hy142) ((tabkOk (nuL (nu142 n pos chr)) (nuL_one (l := nu142 n pos chr) rfl)).hyps ?_) rfl hfi hb (run142 ) (args := [.int .u8 n, .int .u8 pos, .int .u8 chr]) (by simp only [RelL, Rel]; exact ⟨_, _, rfl, rfl, ⟨_, _, rfl, rfl, ⟨_, _, rfl, rfl, rfl⟩⟩⟩) w hl
  obtain ⟨b0, b1, b2, b3, b4, b5⟩ := bb
  unfold hy142
  refine hcons (kRem (isX rfl) (isZ (m := 11) rfl) (denZ (m := 10) rfl) (by omega) (by omega) (by omega)) ?_
  refine hcons (kConvF (isX rfl) tu3 (denX rfl) (fI64 (by omega) (by omega))) ?_
  refine hcons (kRem (isX rfl) (isZ (m := 10) rfl) (denZ (m := 2) rfl) (by omega) (by omega) (by omega)) ?_
  refine hcons (kBytesB (bs := [u8 46, u8 112, u8 112, u8 (chr), u8 112, u8 112, u8 112, u8 112, u8 112, u8 112, u8 112]) (bC (by omega) (bC (by omega) (bC (by omega) (.cons (isB8 (isX rfl) (by omega) (by omega)) (bC (by omega) (bC (by omega) (bC (by omega) (bC (by omega) (bC (by omega) (bC (by omega) (bC (by omega) .nil))))))))))) (denX rfl)) ?_
  refine hcons (kLenE (isX rfl) (denZ (m := 11) rfl) rfl) ?_
  refine hcons (kMid (P := 0) (Q := 1) (isX rfl) (.inl ⟨rfl, rfl⟩) (.inr ⟨_, _, rfl, (isZ (m := 1) rfl)⟩) (by omega) (by omega) (by simp) (denX rfl)) ?_
  refine hcons (kEqS (isX rfl) (isSx (l := [u8 46]) 1 46 rfl) (decide_eq_true rfl)) ?_
  refine hcons (kMid (P := 1) (Q := 11) (isX rfl) (.inr ⟨_, _, rfl, (isZ (m := 1) rfl)⟩) (.inl ⟨rfl, rfl⟩) (by omega) (by omega) (by simp) (denX rfl)) ?_
  refine hcons (kLenE (isX rfl) (denZ (m := 10) rfl) rfl) ?_
  refine hcons (kIdxC (isX rfl) (by simp) rfl (by omega)) ?_
  refine hcons (kIdxC (isX rfl) (by simp) rfl (by omega)) ?_
  refine hcons (kIdxE (i := 2) (isX rfl) (isZ (m := 2) rfl) (denX rfl) rfl (by simp) (bt_at rfl (by omega) (by omega))) ?_
  refine hcons (kGe (isX rfl) (isZ (m := 97) rfl) (decide_eq_false (by omega))) ?_
  exact hnil
def hy143 : List (HK × AV) := [(.bin .rem (.x 0) (u1 11), u1 10),
  (.conv 3 (.x 1), .x 3),
  (.bin .rem (.x 3) (i6 10), i6 2),
  (.bytes [u1 46, u1 112, u1 112, .x 2, u1 112, u1 112, u1 112, u1 112, u1 112, u1 112, u1 112], .x 4),
  (.len (.x 4), i6 11),
  (.sub (.x 4) none (some (i6 1)), .x 5),
  (.bin .eql (.x 5) (.s 1 46), .b true),
  (.sub (.x 4) (some (i6 1)) none, .x 6),
  (.len (.x 6), i6 10),
  (.idx (.x 6) (i6 0), u1 112),
  (.idx (.x 6) (i6 1), u1 112),
  (.idx (.x 6) (i6 2), .x 7),
  (.bin .geq (.x 7) (u1 97), .b true),
  (.bin .leq (.x 7) (u1 122), .b true),
  (.idx (.x 6) (i6 3), u1 112),
  (.idx (.x 6) (i6 4), u1 112),
  (.idx (.x 6) (i6 5), u1 112),
  (.idx (.x 6) (i6 6), u1 112),
  (.idx (.x 6) (i6 7), u1 112),
  (.idx (.x 6) (i6 8), u1 112),
  (.idx (.x 6) (i6 9), u1 112),
  (.bin .neq (.x 6) (.s 0 0), .b true)]
theorem run143 : okB (call (tbl hy143) 9000 7 [.x 0, .x 1, .x 2] ⟨H0 , 7, 0, 0⟩) = true := by kernel_rfl
def nu143 (n pos chr : Int) : List Value := [.int .u8 (n),
  .int .u8 (pos),
  .int .u8 (chr),
  .int .i64 (pos),
  St' ([u8 46, u8 112, u8 112, u8 (chr), u8 112, u8 112, u8 112, u8 112, u8 112, u8 112, u8 112]),
  St' ([u8 46]),
  St' ([u8 112, u8 112, u8 (chr), u8 112, u8 112, u8 112, u8 112, u8 112, u8 112, u8 112]),
  .int .u8 (chr)]
theorem path143 (n pos chr : Int) (bb : BB n pos chr) (h0 : n % 11 = 10) (h1 : pos % 10 = 2) (h2 : 97 ≤ chr) (h3 : chr ≤ 122) (w : World) (hl : laidE w) : Cw #[.int .u8 n, .int .u8 pos, .int .u8 chr] w := by
  obtain ⟨fi, hfi, hb⟩ := fiE
  refine runP (tb := tbl hy143) ((tabkOk (nuL (nu143 n pos chr)) (nuL_one (l := nu143 n pos chr) rfl)).hyps ?_) rfl hfi hb (run143 ) (args := [.int .u8 n, .int .u8 pos, .int .u8 chr]) (by simp only [RelL, Rel]; exact ⟨_, _, rfl, rfl, ⟨_, _, rfl, rfl, ⟨_, _, rfl, rfl, rfl⟩⟩⟩) w hl
  obtain ⟨b0, b1, b2, b3, b4, b5⟩ := bb
  unfold hy143
  refine hcons (kRem (isX rfl) (isZ (m := 11) rfl) (denZ (m := 10) rfl) (by omega) (by omega) (by omega)) ?_
  refine hcons (kConvF (isX rfl) tu3 (denX rfl) (fI64 (by omega) (by omega))) ?_
  refine hcons (kRem (isX rfl) (isZ (m := 10) rfl) (denZ (m := 2) rfl) (by omega) (by omega) (by omega)) ?_
  refine hcons (kBytesB (bs := [u8 46, u8 112, u8 112, u8 (chr), u8 112, u8 112, u8 112, u8 112, u8 112, u8 112, u8 112]) (bC (by omega) (bC (by omega) (bC (by omega) (.cons (isB8 (isX rfl) (by omega) (by omega)) (bC (by omega) (bC (by omega) (bC (by omega) (bC (by omega) (bC (by omega) (bC (by omega) (bC (by omega) .nil))))))))))) (denX rfl)) ?_
  refine hcons (kLenE (isX rfl) (denZ (m := 11) rfl) rfl) ?_
  refine hcons (kMid (P := 0) (Q := 1) (isX rfl) (.inl ⟨rfl, rfl⟩) (.inr ⟨_, _, rfl, (isZ (m := 1) rfl)⟩) (by omega) (by omega) (by simp) (denX rfl)) ?_
  refine hcons (kEqS (isX rfl) (isSx (l := [u8 46]) 1 46 rfl) (decide_eq_true rfl)) ?_
  refine hcons (kMid (P := 1) (Q := 11) (isX rfl) (.inr ⟨_, _, rfl, (isZ (m := 1) rfl)⟩) (.inl ⟨rfl, rfl⟩) (by omega) (by omega) (by simp) (denX rfl)) ?_
  refine hcons (kLenE (isX rfl) (denZ (m := 10) rfl) rfl) ?_
  refine hcons (kIdxC (isX rfl) (by simp) rfl (by omega)) ?_
  refine hcons (kIdxC (isX rfl) (by simp) rfl (by omega)) ?_
  refine hcons (kIdxE (i := 2) (isX rfl) (isZ (m := 2) rfl) (denX rfl) rfl (by simp) (bt_at rfl (by omega) (by omega))) ?_
  refine hcons (kGe (isX rfl) (isZ (m := 97) rfl) (decide_eq_true (by omega))) ?_
  refine hcons (kLe (isX rfl) (isZ (m := 122) rfl) (decide_eq_true (by omega))) ?_
  refine hcons (kIdxC (isX rfl) (by simp) rfl (by omega)) ?_
  refine hcons (kIdxC (isX rfl) (by simp) rfl (by omega)) ?_
  refine hcons (kIdxC (isX rfl) (by simp) rfl (by omega)) ?_
  refine hcons (kIdxC (isX rfl) (by simp) rfl (by omega)) ?_
  refine hcons (kIdxC (isX rfl) (by simp) rfl (by omega)) ?_
  refine hcons (kIdxC (isX rfl) (by simp) rfl (by omega)) ?_
  refine hcons (kIdxC (isX rfl) (by simp) rfl (by omega)) ?_
  refine hcons (kNeS (isX rfl) (isSx (l := ([] : List UInt8)) 0 0 rfl) (bnT (by first | exact nilT (by first | omega | (simp only [List.length_append, List.length_cons, List.length_nil, List.length_take, List.length_drop, List.length_replicate, Int.natCast_add] at * <;> omega)) | exact nilF (by first | omega | (simp only [List.length_append, List.length_cons, List.length_nil, List.length_take, List.length_drop, List.length_replicate, Int.natCast_add] at * <;> omega)) | exact nilT' (by first | omega | (simp only [List.length_append, List.length_cons, List.length_nil, List.length_take, List.length_drop, List.length_replicate, Int.natCast_add] at * <;> omega)) | exact nilF' (by first | omega | (simp only [List.length_append, List.length_cons, List.length_nil, List.length_take, List.length_drop, List.length_replicate, Int.natCast_add] at * <;> omega))))) ?_
  exact hnil
end Go.Proofs.YticlhkekkfelpaaDoor.ruleExts
