/- A part of the proof: an interpreter of the model's own code on partly known states, and that what it answers is what the program answers. No condition of its own. -/
import Derived.Test.YticlhkekkfelpaaDoorB5RuleExtsO
set_option maxRecDepth 100000
set_option linter.unusedVariables false
set_option linter.unusedSimpArgs false
namespace Go.Proofs.YticlhkekkfelpaaDoor.ruleExts
open Go Go.AX Go.Proofs Go.Proofs.YticlhkekkfelpaaDoor
def hy96 : List (HK × AV) := [(.bin .rem (.x 0) (u1 11), u1 8),
  (.conv 3 (.x 1), .x 3),
  (.bin .rem (.x 3) (i6 8), i6 3),
  (.bin .geq (.x 2) (u1 97), .b true),
  (.bin .leq (.x 2) (u1 122), .b false),
  (.bytes [u1 46, u1 112, u1 112, u1 112, .x 2, u1 112, u1 112, u1 112, u1 112], .x 4),
  (.len (.x 4), i6 9),
  (.sub (.x 4) none (some (i6 1)), .x 5),
  (.bin .eql (.x 5) (.s 1 46), .b true),
  (.sub (.x 4) (some (i6 1)) none, .x 6),
  (.len (.x 6), i6 8),
  (.idx (.x 6) (i6 0), u1 112),
  (.idx (.x 6) (i6 1), u1 112),
  (.idx (.x 6) (i6 2), u1 112),
  (.idx (.x 6) (i6 3), .x 7),
  (.bin .geq (.x 7) (u1 97), .b true),
  (.bin .leq (.x 7) (u1 122), .b false)]
theorem run96 : okB (call (tbl hy96) 9000 7 [.x 0, .x 1, .x 2] ⟨H0 , 7, 0, 0⟩) = true := by kernel_rfl
def nu96 (n pos chr : Int) : List Value := [.int .u8 (n),
  .int .u8 (pos),
  .int .u8 (chr),
  .int .i64 (pos),
  St' ([u8 46, u8 112, u8 112, u8 112, u8 (chr), u8 112, u8 112, u8 112, u8 112]),
  St' ([u8 46]),
  St' ([u8 112, u8 112, u8 112, u8 (chr), u8 112, u8 112, u8 112, u8 112]),
  .int .u8 (chr)]
theorem path96 (n pos chr : Int) (bb : BB n pos chr) (h0 : n % 11 = 8) (h1 : pos % 8 = 3) (h2 : 97 ≤ chr) (h3 : ¬ (chr ≤ 122)) (w : World) (hl : laidE w) : Cw #[.int .u8 n, .int .u8 pos, .int .u8 chr] w := by
  obtain ⟨fi, hfi, hb⟩ := fiE
  refine runP (tb := tbl hy96) ((tabkOk (nuL (nu96 n pos chr)) (nuL_one (l := nu96 n pos chr) rfl)).hyps ?_) rfl hfi hb (run96 ) (args := [.int .u8 n, .int .u8 pos, .int .u8 chr]) (by simp only [RelL, Rel]; exact ⟨_, _, rfl, rfl, ⟨_, _, rfl, rfl, ⟨_, _, rfl, rfl, rfl⟩⟩⟩) w hl
  obtain ⟨b0, b1, b2, b3, b4, b5⟩ := bb
  unfold hy96
  refine hcons (kRem (isX rfl) (isZ (m := 11) rfl) (denZ (m := 8) rfl) (by omega) (by omega) (by omega)) ?_
  refine hcons (kConvF (isX rfl) tu3 (denX rfl) (fI64 (by omega) (by omega))) ?_
  refine hcons (kRem (isX rfl) (isZ (m := 8) rfl) (denZ (m := 3) rfl) (by omega) (by omega) (by omega)) ?_
  refine hcons (kGe (isX rfl) (isZ (m := 97) rfl) (decide_eq_true (by omega))) ?_
  refine hcons (kLe (isX rfl) (isZ (m := 122) rfl) (decide_eq_false (by omega))) ?_
  refine hcons (kBytesB (bs := [u8 46, u8 112, u8 112, u8 112, u8 (chr), u8 112, u8 112, u8 112, u8 112]) (bC (by omega) (bC (by omega) (bC (by omega) (bC (by omega) (.cons (isB8 (isX rfl) (by omega) (by omega)) (bC (by omega) (bC (by omega) (bC (by omega) (bC (by omega) .nil))))))))) (denX rfl)) ?_
  refine hcons (kLenE (isX rfl) (denZ (m := 9) rfl) rfl) ?_
  refine hcons (kMid (P := 0) (Q := 1) (isX rfl) (.inl ⟨rfl, rfl⟩) (.inr ⟨_, _, rfl, (isZ (m := 1) rfl)⟩) (by omega) (by omega) (by simp) (denX rfl)) ?_
  refine hcons (kEqS (isX rfl) (isSx (l := [u8 46]) 1 46 rfl) (decide_eq_true rfl)) ?_
  refine hcons (kMid (P := 1) (Q := 9) (isX rfl) (.inr ⟨_, _, rfl, (isZ (m := 1) rfl)⟩) (.inl ⟨rfl, rfl⟩) (by omega) (by omega) (by simp) (denX rfl)) ?_
  refine hcons (kLenE (isX rfl) (denZ (m := 8) rfl) rfl) ?_
  refine hcons (kIdxC (isX rfl) (by simp) rfl (by omega)) ?_
  refine hcons (kIdxC (isX rfl) (by simp) rfl (by omega)) ?_
  refine hcons (kIdxC (isX rfl) (by simp) rfl (by omega)) ?_
  refine hcons (kIdxE (i := 3) (isX rfl) (isZ (m := 3) rfl) (denX rfl) rfl (by simp) (bt_at rfl (by omega) (by omega))) ?_
  refine hcons (kGe (isX rfl) (isZ (m := 97) rfl) (decide_eq_true (by omega))) ?_
  refine hcons (kLe (isX rfl) (isZ (m := 122) rfl) (decide_eq_false (by omega))) ?_
  exact hnil
def hy97 : List (HK × AV) := [(.bin .rem (.x 0) (u1 11), u1 8),
  (.conv 3 (.x 1), .x 3),
  (.bin .rem (.x 3) (i6 8), i6 4),
  (.bin .geq (.x 2) (u1 97), .b false),
  (.bytes [u1 46, u1 112, u1 112, u1 112, u1 112, .x 2, u1 112, u1 112, u1 112], .x 4),
  (.len (.x 4), i6 9),
  (.sub (.x 4) none (some (i6 1)), .x 5),
  (.bin .eql (.x 5) (.s 1 46), .b true),
  (.sub (.x 4) (some (i6 1)) none, .x 6),
  (.len (.x 6), i6 8),
  (.idx (.x 6) (i6 0), u1 112),
  (.idx (.x 6) (i6 1), u1 112),
  (.idx (.x 6) (i6 2), u1 112),
  (.idx (.x 6) (i6 3), u1 112),
  (.idx (.x 6) (i6 4), .x 7),
  (.bin .geq (.x 7) (u1 97), .b false)]
theorem run97 : okB (call (tbl hy97) 9000 7 [.x 0, .x 1, .x 2] ⟨H0 , 7, 0, 0⟩) = true := by kernel_rfl
def nu97 (n pos chr : Int) : List Value := [.int .u8 (n),
  .int .u8 (pos),
  .int .u8 (chr),
  .int .i64 (pos),
  St' ([u8 46, u8 112, u8 112, u8 112, u8 112, u8 (chr), u8 112, u8 112, u8 112]),
  St' ([u8 46]),
  St' ([u8 112, u8 112, u8 112, u8 112, u8 (chr), u8 112, u8 112, u8 112]),
  .int .u8 (chr)]
theorem path97 (n pos chr : Int) (bb : BB n pos chr) (h0 : n % 11 = 8) (h1 : pos % 8 = 4) (h2 : ¬ (97 ≤ chr)) (w : World) (hl : laidE w) : Cw #[.int .u8 n, .int .u8 pos, .int .u8 chr] w := by
  obtain ⟨fi, hfi, hb⟩ := fiE
  refine runP (tb := tbl hy97) ((tabkOk (nuL (nu97 n pos chr)) (nuL_one (l := nu97 n pos chr) rfl)).hyps ?_) rfl hfi hb (run97 ) (args := [.int .u8 n, .int .u8 pos, .int .u8 chr]) (by simp only [RelL, Rel]; exact ⟨_, _, rfl, rfl, ⟨_, _, rfl, rfl, ⟨_, _, rfl, rfl, rfl⟩⟩⟩) w hl
  obtain ⟨b0, b1, b2, b3, b4, b5⟩ := bb
  unfold hy97
  refine hcons (kRem (isX rfl) (isZ (m := 11) rfl) (denZ (m := 8) rfl) (by omega) (by omega) (by omega)) ?_
  refine hcons (kConvF (isX rfl) tu3 (denX rfl) (fI64 (by omega) (by omega))) ?_
  refine hcons (kRem (isX rfl) (isZ (m := 8) rfl) (denZ (m := 4) rfl) (by omega) (by omega) (by omega)) ?_
  refine hcons (kGe (isX rfl) (isZ (m := 97) rfl) (decide_eq_false (by omega))) ?_
  refine hcons (kBytesB (bs := [u8 46, u8 112, u8 112, u8 112, u8 112, u8 (chr), u8 112, u8 112, u8 112]) (bC (by omega) (bC (by omega) (bC (by omega) (bC (by omega) (bC (by omega) (.cons (isB8 (isX rfl) (by omega) (by omega)) (bC (by omega) (bC (by omega) (bC (by omega) .nil))))))))) (denX rfl)) ?_
  refine hcons (kLenE (isX rfl) (denZ (m := 9) rfl) rfl) ?_
  refine hcons (kMid (P := 0) (Q := 1) (isX rfl) (.inl ⟨rfl, rfl⟩) (.inr ⟨_, _, rfl, (isZ (m := 1) rfl)⟩) (by omega) (by omega) (by simp) (denX rfl)) ?_
  refine hcons (kEqS (isX rfl) (isSx (l := [u8 46]) 1 46 rfl) (decide_eq_true rfl)) ?_
  refine hcons (kMid (P := 1) (Q := 9) (isX rfl) (.inr ⟨_, _, rfl, (isZ (m := 1) rfl)⟩) (.inl ⟨rfl, rfl⟩) (by omega) (by omega) (by simp) (denX rfl)) ?_
  refine hcons (kLenE (isX rfl) (denZ (m := 8) rfl) rfl) ?_
  refine hcons (kIdxC (isX rfl) (by simp) rfl (by omega)) ?_
  refine hcons (kIdxC (isX rfl) (by simp) rfl (by omega)) ?_
  refine hcons (kIdxC (isX rfl) (by simp) rfl (by omega)) ?_
  refine hcons (kIdxC (isX rfl) (by simp) rfl (by omega)) ?_
  refine hcons (kIdxE (i := 4) (isX rfl) (isZ (m := 4) rfl) (denX rfl) rfl (by simp) (bt_at rfl (by omega) (by omega))) ?_
  refine hcons (kGe (isX rfl) (isZ (m := 97) rfl) (decide_eq_false (by omega))) ?_
  exact hnil
def hy98 : List (HK × AV) := [(.bin .rem (.x 0) (u1 11), u1 8),
  (.conv 3 (.x 1), .x 3),
  (.bin .rem (.x 3) (i6 8), i6 4),
  (.bin .geq (.x 2) (u1 97), .b true),
  (.bin .leq (.x 2) (u1 122), .b true),
  (.bytes [u1 46, u1 112, u1 112, u1 112, u1 112, .x 2, u1 112, u1 112, u1 112], .x 4),
  (.len (.x 4), i6 9),
  (.sub (.x 4) none (some (i6 1)), .x 5),
  (.bin .eql (.x 5) (.s 1 46), .b true),
  (.sub (.x 4) (some (i6 1)) none, .x 6),
  (.len (.x 6), i6 8),
  (.idx (.x 6) (i6 0), u1 112),
  (.idx (.x 6) (i6 1), u1 112),
  (.idx (.x 6) (i6 2), u1 112),
  (.idx (.x 6) (i6 3), u1 112),
  (.idx (.x 6) (i6 4), .x 7),
  (.bin .geq (.x 7) (u1 97), .b true),
  (.bin .leq (.x 7) (u1 122), .b true),
  (.idx (.x 6) (i6 5), u1 112),
  (.idx (.x 6) (i6 6), u1 112),
  (.idx (.x 6) (i6 7), u1 112),
  (.bin .neq (.x 6) (.s 0 0), .b true)]
theorem run98 : okB (call (tbl hy98) 9000 7 [.x 0, .x 1, .x 2] ⟨H0 , 7, 0, 0⟩) = true := by kernel_rfl
def nu98 (n pos chr : Int) : List Value := [.int .u8 (n),
  .int .u8 (pos),
  .int .u8 (chr),
  .int .i64 (pos),
  St' ([u8 46, u8 112, u8 112, u8 112, u8 112, u8 (chr), u8 112, u8 112, u8 112]),
  St' ([u8 46]),
  St' ([u8 112, u8 112, u8 112, u8 112, u8 (chr), u8 112, u8 112, u8 112]),
  .int .u8 (chr)]
theorem path98 (n pos chr : Int) (bb : BB n pos chr) (h0 : n % 11 = 8) (h1 : pos % 8 = 4) (h2 : 97 ≤ chr) (h3 : chr ≤ 122) (w : World) (hl : laidE w) : Cw #[.int .u8 n, .int .u8 pos, .int .u8 chr] w := by
  obtain ⟨fi, hfi, hb⟩ := fiE
  refine runP (tb := tbl hy98) ((tabkOk (nuL (nu98 n pos chr)) (nuL_one (l := nu98 n pos chr) rfl)).hyps ?_) rfl hfi hb (run98 ) (args := [.int .u8 n, .int .u8 pos, .int .u8 chr]) (by simp only [RelL, Rel]; exact ⟨_, _, rfl, rfl, ⟨_, _, rfl, rfl, ⟨_, _, rfl, rfl, rfl⟩⟩⟩) w hl
  obtain ⟨b0, b1, b2, b3, b4, b5⟩ := bb
  unfold hy98
  refine hcons (kRem (isX rfl) (isZ (m := 11) rfl) (denZ (m := 8) rfl) (by omega) (by omega) (by omega)) ?_
  refine hcons (kConvF (isX rfl) tu3 (denX rfl) (fI64 (by omega) (by omega))) ?_
  refine hcons (kRem (isX rfl) (isZ (m := 8) rfl) (denZ (m := 4) rfl) (by omega) (by omega) (by omega)) ?_
  refine hcons (kGe (isX rfl) (isZ (m := 97) rfl) (decide_eq_true (by omega))) ?_
  refine hcons (kLe (isX rfl) (isZ (m := 122) rfl) (decide_eq_true (by omega))) ?_
  refine hcons (kBytesB (bs := [u8 46, u8 112, u8 112, u8 112, u8 112, u8 (chr), u8 112, u8 112, u8 112]) (bC (by omega) (bC (by omega) (bC (by omega) (bC (by omega) (bC (by omega) (.cons (isB8 (isX rfl) (by omega) (by omega)) (bC (by omega) (bC (by omega) (bC (by omega) .nil))))))))) (denX rfl)) ?_
  refine hcons (kLenE (isX rfl) (denZ (m := 9) rfl) rfl) ?_
  refine hcons (kMid (P := 0) (Q := 1) (isX rfl) (.inl ⟨rfl, rfl⟩) (.inr ⟨_, _, rfl, (isZ (m := 1) rfl)⟩) (by omega) (by omega) (by simp) (denX rfl)) ?_
  refine hcons (kEqS (isX rfl) (isSx (l := [u8 46]) 1 46 rfl) (decide_eq_true rfl)) ?_
  refine hcons (kMid (P := 1) (Q := 9) (isX rfl) (.inr ⟨_, _, rfl, (isZ (m := 1) rfl)⟩) (.inl ⟨rfl, rfl⟩) (by omega) (by omega) (by simp) (denX rfl)) ?_
  refine hcons (kLenE (isX rfl) (denZ (m := 8) rfl) rfl) ?_
  refine hcons (kIdxC (isX rfl) (by simp) rfl (by omega)) ?_
  refine hcons (kIdxC (isX rfl) (by simp) rfl (by omega)) ?_
  refine hcons (kIdxC (isX rfl) (by simp) rfl (by omega)) ?_
  refine hcons (kIdxC (isX rfl) (by simp) rfl (by omega)) ?_
  refine hcons (kIdxE (i := 4) (isX rfl) (isZ (m := 4) rfl) (denX rfl) rfl (by simp) (bt_at rfl (by omega) (by omega))) ?_
  refine hcons (kGe (isX rfl) (isZ (m := 97) rfl) (decide_eq_true (by omega))) ?_
  refine hcons (kLe (isX rfl) (isZ (m := 122) rfl) (decide_eq_true (by omega))) ?_
  refine hcons (kIdxC (isX rfl) (by simp) rfl (by omega)) ?_
  refine hcons (kIdxC (isX rfl) (by simp) rfl (by omega)) ?_
  refine hcons (kIdxC (isX rfl) (by simp) rfl (by omega)) ?_
  refine hcons (kNeS (isX rfl) (isSx (l := ([] : List UInt8)) 0 0 rfl) (bnT (by first | exact nilT (by first | omega | (simp only [List.length_append, List.length_cons, List.length_nil, List.length_take, List.length_drop, List.length_replicate, Int.natCast_add] at * <;> omega)) | exact nilF (by first | omega | (simp only [List.length_append, List.length_cons, List.length_nil, List.length_take, List.length_drop, List.length_replicate, Int.natCast_add] at * <;> omega)) | exact nilT' (by first | omega | (simp only [List.length_append, List.length_cons, List.length_nil, List.length_take, List.length_drop, List.length_replicate, Int.natCast_add] at * <;> omega)) | exact nilF' (by first | omega | (simp only [List.length_append, List.length_cons, List.length_nil, List.length_take, List.length_drop, List.length_replicate, Int.natCast_add] at * <;> omega))))) ?_
  exact hnil
def hy99 : List (HK × AV) := [(.bin .rem (.x 0) (u1 11), u1 8),
  (.conv 3 (.x 1), .x 3),
  (.bin .rem (.x 3) (i6 8), i6 4),
  (.bin .geq (.x 2) (u1 97), .b true),
  (.bin .leq (.x 2) (u1 122), .b false),
  (.bytes [u1 46, u1 112, u1 112, u1 112, u1 112, .x 2, u1 112, u1 112, u1 112], .x 4),
  (.len (.x 4), i6 9),
  (.sub (.x 4) none (some (i6 1)), .x 5),
  (.bin .eql (.x 5) (.s 1 46), .b true),
  (.sub (.x 4) (some (i6 1)) none, .x 6),
  (.len (.x 6), i6 8),
  (.idx (.x 6) (i6 0), u1 112),
  (.idx (.x 6) (i6 1), u1 112),
  (.idx (.x 6) (i6 2), u1 112),
  (.idx (.x 6) (i6 3), u1 112),
  (.idx (.x 6) (i6 4), .x 7),
  (.bin .geq (.x 7) (u1 97), .b true),
  (.bin .leq (.x 7) (u1 122), .b false)]
theorem run99 : okB (call (tbl hy99) 9000 7 [.x 0, .x 1, .x 2] ⟨H0 , 7, 0, 0⟩) = true := by kernel_rfl
def nu99 (n pos chr : Int) : List Value := [.int .u8 (n),
  .int .u8 (pos),
  .int .u8 (chr),
  .int .i64 (pos),
  St' ([u8 46, u8 112, u8 112, u8 112, u8 112, u8 (chr), u8 112, u8 112, u8 112]),
  St' ([u8 46]),
  St' ([u8 112, u8 112, u8 112, u8 112, u8 (chr), u8 112, u8 112, u8 112]),
  .int .u8 (chr)]
theorem path99 (n pos chr : Int) (bb : BB n pos chr) (h0 : n % 11 = 8) (h1 : pos % 8 = 4) (h2 : 97 ≤ chr) (h3 : ¬ (chr ≤ 122)) (w : World) (hl : laidE w) : Cw #[.int .u8 n, .int .u8 pos, .int .u8 chr] w := by
  obtain ⟨fi, hfi, hb⟩ := fiE
  refine runP (tb := tbl hy99) ((tabkOk (nuL (nu99 n pos chr)) (nuL_one (l := nu99 n pos chr) rfl)).hyps ?_) rfl hfi hb (run99 ) (args := [.int .u8 n, .int .u8 pos, .int .u8 chr]) (by simp only [RelL, Rel]; exact ⟨_, _, rfl, rfl, ⟨_, _, rfl, rfl, ⟨_, _, rfl, rfl, rfl⟩⟩⟩) w hl
  obtain ⟨b0, b1, b2, b3, b4, b5⟩ := bb
  unfold hy99
  refine hcons (kRem (isX rfl) (isZ (m := 11) rfl) (denZ (m := 8) rfl) (by omega) (by omega) (by omega)) ?_
  refine hcons (kConvF (isX rfl) tu3 (denX rfl) (fI64 (by omega) (by omega))) ?_
  refine hcons (kRem (isX rfl) (isZ (m := 8) rfl) (denZ (m := 4) rfl) (by omega) (by omega) (by omega)) ?_
  refine hcons (kGe (isX rfl) (isZ (m := 97) rfl) (decide_eq_true (by omega))) ?_
  refine hcons (kLe (isX rfl) (isZ (m := 122) rfl) (decide_eq_false (by omega))) ?_
  refine hcons (kBytesB (bs := [u8 46, u8 112, u8 112, u8 112, u8 112, u8 (chr), u8 112, u8 112, u8 112]) (bC (by omega) (bC (by omega) (bC (by omega) (bC (by omega) (bC (by omega) (.cons (isB8 (isX rfl) (by omega) (by omega)) (bC (by omega) (bC (by omega) (bC (by omega) .nil))))))))) (denX rfl)) ?_
  refine hcons (kLenE (isX rfl) (denZ (m := 9) rfl) rfl) ?_
  refine hcons (kMid (P := 0) (Q := 1) (isX rfl) (.inl ⟨rfl, rfl⟩) (.inr ⟨_, _, rfl, (isZ (m := 1) rfl)⟩) (by omega) (by omega) (by simp) (denX rfl)) ?_
  refine hcons (kEqS (isX rfl) (isSx (l := [u8 46]) 1 46 rfl) (decide_eq_true rfl)) ?_
  refine hcons (kMid (P := 1) (Q := 9) (isX rfl) (.inr ⟨_, _, rfl, (isZ (m := 1) rfl)⟩) (.inl ⟨rfl, rfl⟩) (by omega) (by omega) (by simp) (denX rfl)) ?_
  refine hcons (kLenE (isX rfl) (denZ (m := 8) rfl) rfl) ?_
  refine hcons (kIdxC (isX rfl) (by simp) rfl (by omega)) ?_
  refine hcons (kIdxC (isX rfl) (by simp) rfl (by omega)) ?_
  refine hcons (kIdxC (isX rfl) (by simp) rfl (by omega)) ?_
  refine hcons (kIdxC (isX rfl) (by simp) rfl (by omega)) ?_
  refine hcons (kIdxE (i := 4) (isX rfl) (isZ (m := 4) rfl) (denX rfl) rfl (by simp) (bt_at rfl (by omega) (by omega))) ?_
  refine hcons (kGe (isX rfl) (isZ (m := 97) rfl) (decide_eq_true (by omega))) ?_
  refine hcons (kLe (isX rfl) (isZ (m := 122) rfl) (decide_eq_false (by omega))) ?_
  exact hnil
def hy100 : List (HK × AV) := [(.bin .rem (.x 0) (u1 11), u1 8),
  (.conv 3 (.x 1), .x 3),
  (.bin .rem (.x 3) (i6 8), i6 5),
  (.bin .geq (.x 2) (u1 97), .b false),
  (.bytes [u1 46, u1 112, u1 112, u1 112, u1 112, u1 112, .x 2, u1 112, u1 112], .x 4),
  (.len (.x 4), i6 9),
  (.sub (.x 4) none (some (i6 1)), .x 5),
  (.bin .eql (.x 5) (.s 1 46), .b true),
  (.sub (.x 4) (some (i6 1)) none, .x 6),
  (.len (.x 6), i6 8),
  (.idx (.x 6) (i6 0), u1 112),
  (.idx (.x 6) (i6 1), u1 112),
  (.idx (.x 6) (i6 2), u1 112),
  (.idx (.x 6) (i6 3), u1 112),
  (.idx (.x 6) (i6 4), u1 112),
  (.idx (.x 6) (i6 5), .x 7),
  (.bin .geq (.x 7) (u1 97), .b false)]
theorem run100 : okB (call (tbl hy100) 9000 7 [.x 0, .x 1, .x 2] ⟨H0 , 7, 0, 0⟩) = true := by kernel_rfl
def nu100 (n pos chr : Int) : List Value := [.int .u8 (n),
  .int .u8 (pos),
  .int .u8 (chr),
  .int .i64 (pos),
  St' ([u8 46, u8 112, u8 112, u8 112, u8 112, u8 112, u8 (chr), u8 112, u8 112]),
  St' ([u8 46]),
  St' ([u8 112, u8 112, u8 112, u8 112, u8 112, u8 (chr), u8 112, u8 112]),
  .int .u8 (chr)]
theorem path100 (n pos chr : Int) (bb : BB n pos chr) (h0 : n % 11 = 8) (h1 : pos % 8 = 5) (h2 : ¬ (97 ≤ chr)) (w : World) (hl : laidE w) : Cw #[.int .u8 n, .int .u8 pos, .int .u8 chr] w := by
  obtain ⟨fi, hfi, hb⟩ := fiE
  refine runP (tb := tbl hy100) ((tabkOk (nuL (nu100 n pos chr)) (nuL_one (l := nu100 n pos chr) rfl)).hyps ?_) rfl hfi hb (run100 ) (args := [.int .u8 n, .int .u8 pos, .int .u8 chr]) (by simp only [RelL, Rel]; exact ⟨_, _, rfl, rfl, ⟨_, _, rfl, rfl, ⟨_, _, rfl, rfl, rfl⟩⟩⟩) w hl
  obtain ⟨b0, b1, b2, b3, b4, b5⟩ := bb
  unfold hy100
  refine hcons (kRem (isX rfl) (isZ (m := 11) rfl) (denZ (m := 8) rfl) (by omega) (by omega) (by omega)) ?_
  refine hcons (kConvF (isX rfl) tu3 (denX rfl) (fI64 (by omega) (by omega))) ?_
  refine hcons (kRem (isX rfl) (isZ (m := 8) rfl) (denZ (m := 5) rfl) (by omega) (by omega) (by omega)) ?_
  refine hcons (kGe (isX rfl) (isZ (m := 97) rfl) (decide_eq_false (by omega))) ?_
  refine hcons (kBytesB (bs := [u8 46, u8 112, u8 112, u8 112, u8 112, u8 112, u8 (chr), u8 112, u8 112]) (bC (by omega) (bC (by omega) (bC (by omega) (bC (by omega) (bC (by omega) (bC (by omega) (.cons (isB8 (isX rfl) (by omega) (by omega)) (bC (by omega) (bC (by omega) .nil))))))))) (denX rfl)) ?_
  refine hcons (kLenE (isX rfl) (denZ (m := 9) rfl) rfl) ?_
  refine hcons (kMid (P := 0) (Q := 1) (isX rfl) (.inl ⟨rfl, rfl⟩) (.inr ⟨_, _, rfl, (isZ (m := 1) rfl)⟩) (by omega) (by omega) (by simp) (denX rfl)) ?_
  refine hcons (kEqS (isX rfl) (isSx (l := [u8 46]) 1 46 rfl) (decide_eq_true rfl)) ?_
  refine hcons (kMid (P := 1) (Q := 9) (isX rfl) (.inr ⟨_, _, rfl, (isZ (m := 1) rfl)⟩) (.inl ⟨rfl, rfl⟩) (by omega) (by omega) (by simp) (denX rfl)) ?_
  refine hcons (kLenE (isX rfl) (denZ (m := 8) rfl) rfl) ?_
  refine hcons (kIdxC (isX rfl) (by simp) rfl (by omega)) ?_
  refine hcons (kIdxC (isX rfl) (by simp) rfl (by omega)) ?_
  refine hcons (kIdxC (isX rfl) (by simp) rfl (by omega)) ?_
  refine hcons (kIdxC (isX rfl) (by simp) rfl (by omega)) ?_
  refine hcons (kIdxC (isX rfl) (by simp) rfl (by omega)) ?_
  refine hcons (kIdxE (i := 5) (isX rfl) (isZ (m := 5) rfl) (denX rfl) rfl (by simp) (bt_at rfl (by omega) (by omega))) ?_
  refine hcons (kGe (isX rfl) (isZ (m := 97) rfl) (decide_eq_false (by omega))) ?_
  exact hnil
def hy101 : List (HK × AV) := [(.bin .rem (.x 0) (u1 11), u1 8),
  (.conv 3 (.x 1), .x 3),
  (.bin .rem (.x 3) (i6 8), i6 5),
  (.bin .geq (.x 2) (u1 97), .b true),
  (.bin .leq (.x 2) (u1 122), .b true),
  (.bytes [u1 46, u1 112, u1 112, u1 112, u1 112, u1 112, .x 2, u1 112, u1 112], .x 4),
  (.len (.x 4), i6 9),
  (.sub (.x 4) none (some (i6 1)), .x 5),
  (.bin .eql (.x 5) (.s 1 46), .b true),
  (.sub (.x 4) (some (i6 1)) none, .x 6),
  (.len (.x 6), i6 8),
  (.idx (.x 6) (i6 0), u1 112),
  (.idx (.x 6) (i6 1), u1 112),
  (.idx (.x 6) (i6 2), u1 112),
  (.idx (.x 6) (i6 3), u1 112),
  (.idx (.x 6) (i6 4), u1 112),
  (.idx (.x 6) (i6 5), .x 7),
  (.bin .geq (.x 7) (u1 97), .b true),
  (.bin .leq (.x 7) (u1 122), .b true),
  (.idx (.x 6) (i6 6), u1 112),
  (.idx (.x 6) (i6 7), u1 112),
  (.bin .neq (.x 6) (.s 0 0), .b true)]
theorem run101 : okB (call (tbl hy101) 9000 7 [.x 0, .x 1, .x 2] ⟨H0 , 7, 0, 0⟩) = true := by kernel_rfl
def nu101 (n pos chr : Int) : List Value := [.int .u8 (n),
  .int .u8 (pos),
  .int .u8 (chr),
  .int .i64 (pos),
  St' ([u8 46, u8 112, u8 112, u8 112, u8 112, u8 112, u8 (chr), u8 112, u8 112]),
  St' ([u8 46]),
  St' ([u8 112, u8 112, u8 112, u8 112, u8 112, u8 (chr), u8 112, u8 112]),
  .int .u8 (chr)]
theorem path101 (n pos chr : Int) (bb : BB n pos chr) (h0 : n % 11 = 8) (h1 : pos % 8 = 5) (h2 : 97 ≤ chr) (h3 : chr ≤ 122) (w : World) (hl : laidE w) : Cw #[.int .u8 n, .int .u8 pos, .int .u8 chr] w := by
  obtain ⟨fi, hfi, hb⟩ := fiE
  refine runP (tb := tbl hy101) ((tabkOk (nuL (nu101 n pos chr)) (nuL_one (l := nu101 n pos chr) rfl)).hyps ?_) rfl hfi hb (run101 ) (args := [.int .u8 n, .int .u8 pos, .int .u8 chr]) (by simp only [RelL, Rel]; exact ⟨_, _, rfl, rfl, ⟨_, _, rfl, rfl, ⟨_, _, rfl, rfl, rfl⟩⟩⟩) w hl
  obtain ⟨b0, b1, b2, b3, b4, b5⟩ := bb
  unfold hy101
  refine hcons (kRem (isX rfl) (isZ (m := 11) rfl) (denZ (m := 8) rfl) (by omega) (by omega) (by omega)) ?_
  refine hcons (kConvF (isX rfl) tu3 (denX rfl) (fI64 (by omega) (by omega))) ?_
  refine hcons (kRem (isX rfl) (isZ (m := 8) rfl) (denZ (m := 5) rfl) (by omega) (by omega) (by omega)) ?_
  refine hcons (kGe (isX rfl) (isZ (m := 97) rfl) (decide_eq_true (by omega))) ?_
  refine hcons (kLe (isX rfl) (isZ (m := 122) rfl) (decide_eq_true (by omega))) ?_
  refine hcons (kBytesB (bs := [u8 46, u8 112, u8 112, u8 112, u8 112, u8 112, u8 (chr), u8 112, u8 112]) (bC (by omega) (bC (by omega) (bC (by omega) (bC (by omega) (bC (by omega) (bC (by omega) (.cons (isB8 (isX rfl) (by omega) (by omega)) (bC (by omega) (bC (by omega) .nil))))))))) (denX rfl)) ?_
  refine hcons (kLenE (isX rfl) (denZ (m := 9) rfl) rfl) ?_
  refine hcons (kMid (P := 0) (Q := 1) (isX rfl) (.inl ⟨rfl, rfl⟩) (.inr ⟨_, _, rfl, (isZ (m := 1) rfl)⟩) (by omega) (by omega) (by simp) (denX rfl)) ?_
  refine hcons (kEqS (isX rfl) (isSx (l := [u8 46]) 1 46 rfl) (decide_eq_true rfl)) ?_
  refine hcons (kMid (P := 1) (Q := 9) (isX rfl) (.inr ⟨_, _, rfl, (isZ (m := 1) rfl)⟩) (.inl ⟨rfl, rfl⟩) (by omega) (by omega) (by simp) (denX rfl)) ?_
  refine hcons (kLenE (isX rfl) (denZ (m := 8) rfl) rfl) ?_
  refine hcons (kIdxC (isX rfl) (by simp) rfl (by omega)) ?_
  refine hcons (kIdxC (isX rfl) (by simp) rfl (by omega)) ?_
  refine hcons (kIdxC (isX rfl) (by simp) rfl (by omega)) ?_
  refine hcons (kIdxC (isX rfl) (by simp) rfl (by omega)) ?_
  refine hcons (kIdxC (isX rfl) (by simp) rfl (by omega)) ?_
  refine hcons (kIdxE (i := 5) (isX rfl) (isZ (m := 5) rfl) (denX rfl) rfl (by simp) (bt_at rfl (by omega) (by omega))) ?_
  refine hcons (kGe (isX rfl) (isZ (m := 97) rfl) (decide_eq_true (by omega))) ?_
  refine hcons (kLe (isX rfl) (isZ (m := 122) rfl) (decide_eq_true (by omega))) ?_
  refine hcons (kIdxC (isX rfl) (by simp) rfl (by omega)) ?_
  refine hcons (kIdxC (isX rfl) (by simp) rfl (by omega)) ?_
  refine hcons (kNeS (isX rfl) (isSx (l := ([] : List UInt8)) 0 0 rfl) (bnT (by first | exact nilT (by first | omega | (simp only [List.length_append, List.length_cons, List.length_nil, List.length_take, List.length_drop, List.length_replicate, Int.natCast_add] at * <;> omega)) | exact nilF (by first | omega | (simp only [List.length_append, List.length_cons, List.length_nil, List.length_take, List.length_drop, List.length_replicate, Int.natCast_add] at * <;> omega)) | exact nilT' (by first | omega | (simp only [List.length_append, List.length_cons, List.length_nil, List.length_take, List.length_drop, List.length_replicate, Int.natCast_add] at * <;> omega)) | exact nilF' (by first | omega | (simp only [List.length_append, List.length_cons, List.length_nil, List.length_take, List.length_drop, List.length_replicate, Int.natCast_add] at * <;> omega))))) ?_
  exact hnil
def hy102 : List (HK × AV) := [(.bin .rem (.x 0) (u1 11), u1 8),
  (.conv 3 (.x 1), .x 3),
  (.bin .rem (.x 3) (i6 8), i6 5),
  (.bin .geq (.x 2) (u1 97), .b true),
  (.bin .leq (.x 2) (u1 122), .b false),
  (.bytes [u1 46, u1 112, u1 112, u1 112, u1 112, u1 112, .x 2, u1 112, u1 112], .x 4),
  (.len (.x 4), i6 9),
  (.sub (.x 4) none (some (i6 1)), .x 5),
  (.bin .eql (.x 5) (.s 1 46), .b true),
  (.sub (.x 4) (some (i6 1)) none, .x 6),
  (.len (.x 6), i6 8),
  (.idx (.x 6) (i6 0), u1 112),
  (.idx (.x 6) (i6 1), u1 112),
  (.idx (.x 6) (i6 2), u1 112),
  (.idx (.x 6) (i6 3), u1 112),
  (.idx (.x 6) (i6 4), u1 112),
  (.idx (.x 6) (i6 5), .x 7),
  (.bin .geq (.x 7) (u1 97), .b true),
  (.bin .leq (.x 7) (u1 122), .b false)]
theorem run102 : okB (call (tbl hy102) 9000 7 [.x 0, .x 1, .x 2] ⟨H0 , 7, 0, 0⟩) = true := by kernel_rfl
def nu102 (n pos chr : Int) : List Value := [.int .u8 (n),
  .int .u8 (pos),
  .int .u8 (chr),
  .int .i64 (pos),
  St' ([u8 46, u8 112, u8 112, u8 112, u8 112, u8 112, u8 (chr), u8 112, u8 112]),
  St' ([u8 46]),
  St' ([u8 112, u8 112, u8 112, u8 112, u8 112, u8 (chr), u8 112, u8 112]),
  .int .u8 (chr)]
theorem path102 (n pos chr : Int) (bb : BB n pos chr) (h0 : n % 11 = 8) (h1 : pos % 8 = 5) (h2 : 97 ≤ chr) (h3 : ¬ (chr ≤ 122)) (w : World) (hl : laidE w) : Cw #[.int .u8 n, .int .u8 pos, .int .u8 chr] w := by
  obtain ⟨fi, hfi, hb⟩ := fiE
  refine runP (tb := tbl hy102) ((tabkOk (nuL (nu102 n pos chr)) (nuL_one (l := nu102 n pos chr) rfl)).hyps ?_) rfl hfi hb (run102 ) (args := [.int .u8 n, .int .u8 pos, .int .u8 chr]) (by simp only [RelL, Rel]; exact ⟨_, _, rfl, rfl, ⟨_, _, rfl, rfl, ⟨_, _, rfl, rfl, rfl⟩⟩⟩) w hl
  obtain ⟨b0, b1, b2, b3, b4, b5⟩ := bb
  unfold hy102
  refine hcons (kRem (isX rfl) (isZ (m := 11) rfl) (denZ (m := 8) rfl) (by omega) (by omega) (by omega)) ?_
  refine hcons (kConvF (isX rfl) tu3 (denX rfl) (fI64 (by omega) (by omega))) ?_
  refine hcons (kRem (isX rfl) (isZ (m := 8) rfl) (denZ (m := 5) rfl) (by omega) (by omega) (by omega)) ?_
  refine hcons (kGe (isX rfl) (isZ (m := 97) rfl) (decide_eq_true (by omega))) ?_
  refine hcons (kLe (isX rfl) (isZ (m := 122) rfl) (decide_eq_false (by omega))) ?_
  refine hcons (kBytesB (bs := [u8 46, u8 112, u8 112, u8 112, u8 112, u8 112, u8 (chr), u8 112, u8 112]) (bC (by omega) (bC (by omega) (bC (by omega) (bC (by omega) (bC (by omega) (bC (by omega) (.cons (isB8 (isX rfl) (by omega) (by omega)) (bC (by omega) (bC (by omega) .nil))))))))) (denX rfl)) ?_
  refine hcons (kLenE (isX rfl) (denZ (m := 9) rfl) rfl) ?_
  refine hcons (kMid (P := 0) (Q := 1) (isX rfl) (.inl ⟨rfl, rfl⟩) (.inr ⟨_, _, rfl, (isZ (m := 1) rfl)⟩) (by omega) (by omega) (by simp) (denX rfl)) ?_
  refine hcons (kEqS (isX rfl) (isSx (l := [u8 46]) 1 46 rfl) (decide_eq_true rfl)) ?_
  refine hcons (kMid (P := 1) (Q := 9) (isX rfl) (.inr ⟨_, _, rfl, (isZ (m := 1) rfl)⟩) (.inl ⟨rfl, rfl⟩) (by omega) (by omega) (by simp) (denX rfl)) ?_
  refine hcons (kLenE (isX rfl) (denZ (m := 8) rfl) rfl) ?_
  refine hcons (kIdxC (isX rfl) (by simp) rfl (by omega)) ?_
  refine hcons (kIdxC (isX rfl) (by simp) rfl (by omega)) ?_
  refine hcons (kIdxC (isX rfl) (by simp) rfl (by omega)) ?_
  refine hcons (kIdxC (isX rfl) (by simp) rfl (by omega)) ?_
  refine hcons (kIdxC (isX rfl) (by simp) rfl (by omega)) ?_
  refine hcons (kIdxE (i := 5) (isX rfl) (isZ (m := 5) rfl) (denX rfl) rfl (by simp) (bt_at rfl (by omega) (by omega))) ?_
  refine hcons (kGe (isX rfl) (isZ (m := 97) rfl) (decide_eq_true (by omega))) ?_
  refine hcons (kLe (isX rfl) (isZ (m := 122) rfl) (decide_eq_false (by omega))) ?_
  exact hnil
def hy103 : List (HK × AV) := [(.bin .rem (.x 0) (u1 11), u1 8),
  (.conv 3 (.x 1), .x 3),
  (.bin .rem (.x 3) (i6 8), i6 6),
  (.bin .geq (.x 2) (u1 97), .b false),
  (.bytes [u1 46, u1 112, u1 112, u1 112, u1 112, u1 112, u1 112, .x 2, u1 112], .x 4),
  (.len (.x 4), i6 9),
  (.sub (.x 4) none (some (i6 1)), .x 5),
  (.bin .eql (.x 5) (.s 1 46), .b true),
  (.sub (.x 4) (some (i6 1)) none, .x 6),
  (.len (.x 6), i6 8),
  (.idx (.x 6) (i6 0), u1 112),
  (.idx (.x 6) (i6 1), u1 112),
  (.idx (.x 6) (i6 2), u1 112),
  (.idx (.x 6) (i6 3), u1 112),
  (.idx (.x 6) (i6 4), u1 112),
  (.idx (.x 6) (i6 5), u1 112),
  (.idx (.x 6) (i6 6), .x 7),
  (.bin .geq (.x 7) (u1 97), .b false)]
theorem run103 : okB (call (tbl hy103) 9000 7 [.x 0, .x 1, .x 2] ⟨H0 , 7, 0, 0⟩) = true := by kernel_rfl
def nu103 (n pos chr : Int) : List Value := [.int .u8 (n),
  .int .u8 (pos),
  .int .u8 (chr),
  .int .i64 (pos),
  St' ([u8 46, u8 112, u8 112, u8 112, u8 112, u8 112, u8 112, u8 (chr), u8 112]),
  St' ([u8 46]),
  St' ([u8 112, u8 112, u8 112, u8 112, u8 112, u8 112, u8 (chr), u8 112]),
  .int .u8 (chr)]
theorem path103 (n pos chr : Int) (bb : BB n pos chr) (h0 : n % 11 = 8) (h1 : pos % 8 = 6) (h2 : ¬ (97 ≤ chr)) (w : World) (hl : laidE w) : Cw #[.int .u8 n, .int .u8 pos, .int .u8 chr] w := by
  obtain ⟨fi, hfi, hb⟩ := fiE
  refine runP (tb := tbl hy103) ((tabkOk (nuL (nu103 n pos chr)) (nuL_one (l := nu103 n pos chr) rfl)).hyps ?_) rfl hfi hb (run103 ) (args := [.int .u8 n, .int .u8 pos, .int .u8 chr]) (by simp only [RelL, Rel]; exact ⟨_, _, rfl, rfl, ⟨_, _, rfl, rfl, ⟨_, _, rfl, rfl, rfl⟩⟩⟩) w hl
  obtain ⟨b0, b1, b2, b3, b4, b5⟩ := bb
  unfold hy103
  refine hcons (kRem (isX rfl) (isZ (m := 11) rfl) (denZ (m := 8) rfl) (by omega) (by omega) (by omega)) ?_
  refine hcons (kConvF (isX rfl) tu3 (denX rfl) (fI64 (by omega) (by omega))) ?_
  refine hcons (kRem (isX rfl) (isZ (m := 8) rfl) (denZ (m := 6) rfl) (by omega) (by omega) (by omega)) ?_
  refine hcons (kGe (isX rfl) (isZ (m := 97) rfl) (decide_eq_false (by omega))) ?_
  refine hcons (kBytesB (bs := [u8 46, u8 112, u8 112, u8 112, u8 112, u8 112, u8 112, u8 (chr), u8 112]) (bC (by omega) (bC (by omega) (bC (by omega) (bC (by omega) (bC (by omega) (bC (by omega) (bC (by omega) (.cons (isB8 (isX rfl) (by omega) (by omega)) (bC (by omega) .nil))))))))) (denX rfl)) ?_
  refine hcons (kLenE (isX rfl) (denZ (m := 9) rfl) rfl) ?_
  refine hcons (kMid (P := 0) (Q := 1) (isX rfl) (.inl ⟨rfl, rfl⟩) (.inr ⟨_, _, rfl, (isZ (m := 1) rfl)⟩) (by omega) (by omega) (by simp) (denX rfl)) ?_
  refine hcons (kEqS (isX rfl) (isSx (l := [u8 46]) 1 46 rfl) (decide_eq_true rfl)) ?_
  refine hcons (kMid (P := 1) (Q := 9) (isX rfl) (.inr ⟨_, _, rfl, (isZ (m := 1) rfl)⟩) (.inl ⟨rfl, rfl⟩) (by omega) (by omega) (by simp) (denX rfl)) ?_
  refine hcons (kLenE (isX rfl) (denZ (m := 8) rfl) rfl) ?_
  refine hcons (kIdxC (isX rfl) (by simp) rfl (by omega)) ?_
  refine hcons (kIdxC (isX rfl) (by simp) rfl (by omega)) ?_
  refine hcons (kIdxC (isX rfl) (by simp) rfl (by omega)) ?_
  refine hcons (kIdxC (isX rfl) (by simp) rfl (by omega)) ?_
  refine hcons (kIdxC (isX rfl) (by simp) rfl (by omega)) ?_
  refine hcons (kIdxC (isX rfl) (by simp) rfl (by omega)) ?_
  refine hcons (kIdxE (i := 6) (isX rfl) (isZ (m := 6) rfl) (denX rfl) rfl (by simp) (bt_at rfl (by omega) (by omega))) ?_
  refine hcons (kGe (isX rfl) (isZ (m := 97) rfl) (decide_eq_false (by omega))) ?_
  exact hnil
def hy104 : List (HK × AV) := [(.bin .rem (.x 0) (u1 11), u1 8),
  (.conv 3 (.x 1), .x 3),
  (.bin .rem (.x 3) (i6 8), i6 6),
  (.bin .geq (.x 2) (u1 97), .b true),
  (.bin .leq (.x 2) (u1 122), .b true),
  (.bytes [u1 46, u1 112, u1 112, u1 112, u1 112, u1 112, u1 112, .x 2, u1 112], .x 4),
  (.len (.x 4), i6 9),
  (.sub (.x 4) none (some (i6 1)), .x 5),
  (.bin .eql (.x 5) (.s 1 46), .b true),
  (.sub (.x 4) (some (i6 1)) none, .x 6),
  (.len (.x 6), i6 8),
  (.idx (.x 6) (i6 0), u1 112),
  (.idx (.x 6) (i6 1), u1 112),
  (.idx (.x 6) (i6 2), u1 112),
  (.idx (.x 6) (i6 3), u1 112),
  (.idx (.x 6) (i6 4), u1 112),
  (.idx (.x 6) (i6 5), u1 112),
  (.idx (.x 6) (i6 6), .x 7),
  (.bin .geq (.x 7) (u1 97), .b true),
  (.bin .leq (.x 7) (u1 122), .b true),
  (.idx (.x 6) (i6 7), u1 112),
  (.bin .neq (.x 6) (.s 0 0), .b true)]
theorem run104 : okB (call (tbl hy104) 9000 7 [.x 0, .x 1, .x 2] ⟨H0 , 7, 0, 0⟩) = true := by kernel_rfl
def nu104 (n pos chr : Int) : List Value := [.int .u8 (n),
  .int .u8 (pos),
  .int .u8 (chr),
  .int .i64 (pos),
  St' ([u8 46, u8 112, u8 112, u8 112, u8 112, u8 112, u8 112, u8 (chr), u8 112]),
  St' ([u8 46]),
  St' ([u8 112, u8 112, u8 112, u8 112, u8 112, u8 112, u8 (chr), u8 112]),
  .int .u8 (chr)]
theorem path104 (n pos chr : Int) (bb : BB n pos chr) (h0 : n % 11 = 8) (h1 : pos % 8 = 6) (h2 : 97 ≤ chr) (h3 : chr ≤ 122) (w : World) (hl : laidE w) : Cw #[.int .u8 n, .int .u8 pos, .int .u8 chr] w := by
  obtain ⟨fi, hfi, hb⟩ := fiE
  refine runP (tb := tbl hy104) ((tabkOk (nuL (nu104 n pos chr)) (nuL_one (l := nu104 n pos chr) rfl)).hyps ?_) rfl hfi hb (run104 ) (args := [.int .u8 n, .int .u8 pos, .int .u8 chr]) (by simp only [RelL, Rel]; exact ⟨_, _, rfl, rfl, ⟨_, _, rfl, rfl, ⟨_, _, rfl, rfl, rfl⟩⟩⟩) w hl
  obtain ⟨b0, b1, b2, b3, b4, b5⟩ := bb
  unfold hy104
  refine hcons (kRem (isX rfl) (isZ (m := 11) rfl) (denZ (m := 8) rfl) (by omega) (by omega) (by omega)) ?_
  refine hcons (kConvF (isX rfl) tu3 (denX rfl) (fI64 (by omega) (by omega))) ?_
  refine hcons (kRem (isX rfl) (isZ (m := 8) rfl) (denZ (m := 6) rfl) (by omega) (by omega) (by omega)) ?_
  refine hcons (kGe (isX rfl) (isZ (m := 97) rfl) (decide_eq_true (by omega))) ?_
  refine hcons (kLe (isX rfl) (isZ (m := 122) rfl) (decide_eq_true (by omega))) ?_
  refine hcons (kBytesB (bs := [u8 46, u8 112, u8 112, u8 112, u8 112, u8 112, u8 112, u8 (chr), u8 112]) (bC (by omega) (bC (by omega) (bC (by omega) (bC (by omega) (bC (by omega) (bC (by omega) (bC (by omega) (.cons (isB8 (isX rfl) (by omega) (by omega)) (bC (by omega) .nil))))))))) (denX rfl)) ?_
  refine hcons (kLenE (isX rfl) (denZ (m := 9) rfl) rfl) ?_
  refine hcons (kMid (P := 0) (Q := 1) (isX rfl) (.inl ⟨rfl, rfl⟩) (.inr ⟨_, _, rfl, (isZ (m := 1) rfl)⟩) (by omega) (by omega) (by simp) (denX rfl)) ?_
  refine hcons (kEqS (isX rfl) (isSx (l := [u8 46]) 1 46 rfl) (decide_eq_true rfl)) ?_
  refine hcons (kMid (P := 1) (Q := 9) (isX rfl) (.inr ⟨_, _, rfl, (isZ (m := 1) rfl)⟩) (.inl ⟨rfl, rfl⟩) (by omega) (by omega) (by simp) (denX rfl)) ?_
  refine hcons (kLenE (isX rfl) (denZ (m := 8) rfl) rfl) ?_
  refine hcons (kIdxC (isX rfl) (by simp) rfl (by omega)) ?_
  refine hcons (kIdxC (isX rfl) (by simp) rfl (by omega)) ?_
  refine hcons (kIdxC (isX rfl) (by simp) rfl (by omega)) ?_
  refine hcons (kIdxC (isX rfl) (by simp) rfl (by omega)) ?_
  refine hcons (kIdxC (isX rfl) (by simp) rfl (by omega)) ?_
  refine hcons (kIdxC (isX rfl) (by simp) rfl (by omega)) ?_
  refine hcons (kIdxE (i := 6) (isX rfl) (isZ (m := 6) rfl) (denX rfl) rfl (by simp) (bt_at rfl (by omega) (by omega))) ?_
  refine hcons (kGe (isX rfl) (isZ (m := 97) rfl) (decide_eq_true (by omega))) ?_
  refine hcons (kLe (isX rfl) (isZ (m := 122) rfl) (decide_eq_true (by omega))) ?_
  refine hcons (kIdxC (isX rfl) (by simp) rfl (by omega)) ?_
  refine hcons (kNeS (isX rfl) (isSx (l := ([] : List UInt8)) 0 0 rfl) (bnT (by first | exact nilT (by first | omega | (simp only [List.length_append, List.length_cons, List.length_nil, List.length_take, List.length_drop, List.length_replicate, Int.natCast_add] at * <;> omega)) | exact nilF (by first | omega | (simp only [List.length_append, List.length_cons, List.length_nil, List.length_take, List.length_drop, List.length_replicate, Int.natCast_add] at * <;> omega)) | exact nilT' (by first | omega | (simp only [List.length_append, List.length_cons, List.length_nil, List.length_take, List.length_drop, List.length_replicate, Int.natCast_add] at * <;> omega)) | exact nilF' (by first | omega | (simp only [List.length_append, List.length_cons, List.length_nil, List.length_take, List.length_drop, List.length_replicate, Int.natCast_add] at * <;> omega))))) ?_
  exact hnil
def hy105 : List (HK × AV) := [(.bin .rem (.x 0) (u1 11), u1 8),
  (.conv 3 (.x 1), .x 3),
  (.bin .rem (.x 3) (i6 8), i6 6),
  (.bin .geq (.x 2) (u1 97), .b true),
  (.bin .leq (.x 2) (u1 122), .b false),
  (.bytes [u1 46, u1 112, u1 112, u1 112, u1 112, u1 112, u1 112, .x 2, u1 112], .x 4),
  (.len (.x 4), i6 9),
  (.sub (.x 4) none (some (i6 1)), .x 5),
  (.bin .eql (.x 5) (.s 1 46), .b true),
  (.sub (.x 4) (some (i6 1)) none, .x 6),
  (.len (.x 6), i6 8),
  (.idx (.x 6) (i6 0), u1 112),
  (.idx (.x 6) (i6 1), u1 112),
  (.idx (.x 6) (i6 2), u1 112),
  (.idx (.x 6) (i6 3), u1 112),
  (.idx (.x 6) (i6 4), u1 112),
  (.idx (.x 6) (i6 5), u1 112),
  (.idx (.x 6) (i6 6), .x 7),
  (.bin .geq (.x 7) (u1 97), .b true),
  (.bin .leq (.x 7) (u1 122), .b false)]
theorem run105 : okB (call (tbl hy105) 9000 7 [.x 0, .x 1, .x 2] ⟨H0 , 7, 0, 0⟩) = true := by kernel_rfl
def nu105 (n pos chr : Int) : List Value := [.int .u8 (n),
  .int .u8 (pos),
  .int .u8 (chr),
  .int .i64 (pos),
  St' ([u8 46, u8 112, u8 112, u8 112, u8 112, u8 112, u8 112, u8 (chr), u8 112]),
  St' ([u8 46]),
  St' ([u8 112, u8 112, u8 112, u8 112, u8 112, u8 112, u8 (chr), u8 112]),
  .int .u8 (chr)]
theorem path105 (n pos chr : Int) (bb : BB n pos chr) (h0 : n % 11 = 8) (h1 : pos % 8 = 6) (h2 : 97 ≤ chr) (h3 : ¬ (chr ≤ 122)) (w : World) (hl : laidE w) : Cw #[.int .u8 n, .int .u8 pos, .int .u8 chr] w := by
  obtain ⟨fi, hfi, hb⟩ := fiE
  refine runP (tb := tbl hy105) ((tabkOk (nuL (nu105 n pos chr)) (nuL_one (l := nu105 n pos chr) rfl)).hyps ?_) rfl hfi hb (run105 ) (args := [.int .u8 n, .int .u8 pos, .int .u8 chr]) (by simp only [RelL, Rel]; exact ⟨_, _, rfl, rfl, ⟨_, _, rfl, rfl, ⟨_, _, rfl, rfl, rfl⟩⟩⟩) w hl
  obtain ⟨b0, b1, b2, b3, b4, b5⟩ := bb
  unfold hy105
  refine hcons (kRem (isX rfl) (isZ (m := 11) rfl) (denZ (m := 8) rfl) (by omega) (by omega) (by omega)) ?_
  refine hcons (kConvF (isX rfl) tu3 (denX rfl) (fI64 (by omega) (by omega))) ?_
  refine hcons (kRem (isX rfl) (isZ (m := 8) rfl) (denZ (m := 6) rfl) (by omega) (by omega) (by omega)) ?_
  refine hcons (kGe (isX rfl) (isZ (m := 97) rfl) (decide_eq_true (by omega))) ?_
  refine hcons (kLe (isX rfl) (isZ (m := 122) rfl) (decide_eq_false (by omega))) ?_
  refine hcons (kBytesB (bs := [u8 46, u8 112, u8 112, u8 112, u8 112, u8 112, u8 112, u8 (chr), u8 112]) (bC (by omega) (bC (by omega) (bC (by omega) (bC (by omega) (bC (by omega) (bC (by omega) (bC (by omega) (.cons (isB8 (isX rfl) (by omega) (by omega)) (bC (by omega) .nil))))))))) (denX rfl)) ?_
  refine hcons (kLenE (isX rfl) (denZ (m := 9) rfl) rfl) ?_
  refine hcons (kMid (P := 0) (Q := 1) (isX rfl) (.inl ⟨rfl, rfl⟩) (.inr ⟨_, _, rfl, (isZ (m := 1) rfl)⟩) (by omega) (by omega) (by simp) (denX rfl)) ?_
  refine hcons (kEqS (isX rfl) (isSx (l := [u8 46]) 1 46 rfl) (decide_eq_true rfl)) ?_
  refine hcons (kMid (P := 1) (Q := 9) (isX rfl) (.inr ⟨_, _, rfl, (isZ (m := 1) rfl)⟩) (.inl ⟨rfl, rfl⟩) (by omega) (by omega) (by simp) (denX rfl)) ?_
  refine hcons (kLenE (isX rfl) (denZ (m := 8) rfl) rfl) ?_
  refine hcons (kIdxC (isX rfl) (by simp) rfl (by omega)) ?_
  refine hcons (kIdxC (isX rfl) (by simp) rfl (by omega)) ?_
  refine hcons (kIdxC (isX rfl) (by simp) rfl (by omega)) ?_
  refine hcons (kIdxC (isX rfl) (by simp) rfl (by omega)) ?_
  refine hcons (kIdxC (isX rfl) (by simp) rfl (by omega)) ?_
  refine hcons (kIdxC (isX rfl) (by simp) rfl (by omega)) ?_
  refine hcons (kIdxE (i := 6) (isX rfl) (isZ (m := 6) rfl) (denX rfl) rfl (by simp) (bt_at rfl (by omega) (by omega))) ?_
  refine hcons (kGe (isX rfl) (isZ (m := 97) rfl) (decide_eq_true (by omega))) ?_
  refine hcons (kLe (isX rfl) (isZ (m := 122) rfl) (decide_eq_false (by omega))) ?_
  exact hnil
def hy106 : List (HK × AV) := [(.bin .rem (.x 0) (u1 11), u1 8),
  (.conv 3 (.x 1), .x 3),
  (.bin .rem (.x 3) (i6 8), i6 7),
  (.bin .geq (.x 2) (u1 97), .b false),
  (.bytes [u1 46, u1 112, u1 112, u1 112, u1 112, u1 112, u1 112, u1 112, .x 2], .x 4),
  (.len (.x 4), i6 9),
  (.sub (.x 4) none (some (i6 1)), .x 5),
  (.bin .eql (.x 5) (.s 1 46), .b true),
  (.sub (.x 4) (some (i6 1)) none, .x 6),
  (.len (.x 6), i6 8),
  (.idx (.x 6) (i6 0), u1 112),
  (.idx (.x 6) (i6 1), u1 112),
  (.idx (.x 6) (i6 2), u1 112),
  (.idx (.x 6) (i6 3), u1 112),
  (.idx (.x 6) (i6 4), u1 112),
  (.idx (.x 6) (i6 5), u1 112),
  (.idx (.x 6) (i6 6), u1 112),
  (.idx (.x 6) (i6 7), .x 7),
  (.bin .geq (.x 7) (u1 97), .b false)]
theorem run106 : okB (call (tbl hy106) 9000 7 [.x 0, .x 1, .x 2] ⟨H0 , 7, 0, 0⟩) = true := by kernel_rfl
def nu106 (n pos chr : Int) : List Value := [.int .u8 (n),
  .int .u8 (pos),
  .int .u8 (chr),
  .int .i64 (pos),
  St' ([u8 46, u8 112, u8 112, u8 112, u8 112, u8 112, u8 112, u8 112, u8 (chr)]),
  St' ([u8 46]),
  St' ([u8 112, u8 112, u8 112, u8 112, u8 112, u8 112, u8 112, u8 (chr)]),
  .int .u8 (chr)]
theorem path106 (n pos chr : Int) (bb : BB n pos chr) (h0 : n % 11 = 8) (h1 : pos % 8 = 7) (h2 : ¬ (97 ≤ chr)) (w : World) (hl : laidE w) : Cw #[.int .u8 n, .int .u8 pos, .int .u8 chr] w := by
  obtain ⟨fi, hfi, hb⟩ := fiE
  refine runP (tb := tbl hy106) ((tabkOk (nuL (nu106 n pos chr)) (nuL_one (l := nu106 n pos chr) rfl)).hyps ?_) rfl hfi hb (run106 ) (args := [.int .u8 n, .int .u8 pos, .int .u8 chr]) (by simp only [RelL, Rel]; exact ⟨_, _, rfl, rfl, ⟨_, _, rfl, rfl, ⟨_, _, rfl, rfl, rfl⟩⟩⟩) w hl
  obtain ⟨b0, b1, b2, b3, b4, b5⟩ := bb
  unfold hy106
  refine hcons (kRem (isX rfl) (isZ (m := 11) rfl) (denZ (m := 8) rfl) (by omega) (by omega) (by omega)) ?_
  refine hcons (kConvF (isX rfl) tu3 (denX rfl) (fI64 (by omega) (by omega))) ?_
  refine hcons (kRem (isX rfl) (isZ (m := 8) rfl) (denZ (m := 7) rfl) (by omega) (by omega) (by omega)) ?_
  refine hcons (kGe (isX rfl) (isZ (m := 97) rfl) (decide_eq_false (by omega))) ?_
  refine hcons (kBytesB (bs := [u8 46, u8 112, u8 112, u8 112, u8 112, u8 112, u8 112, u8 112, u8 (chr)]) (bC (by omega) (bC (by omega) (bC (by omega) (bC (by omega) (bC (by omega) (bC (by omega) (bC (by omega) (bC (by omega) (.cons (isB8 (isX rfl) (by omega) (by omega)) .nil))))))))) (denX rfl)) ?_
  refine hcons (kLenE (isX rfl) (denZ (m := 9) rfl) rfl) ?_
  refine hcons (kMid (P := 0) (Q := 1) (isX rfl) (.inl ⟨rfl, rfl⟩) (.inr ⟨_, _, rfl, (isZ (m := 1) rfl)⟩) (by omega) (by omega) (by simp) (denX rfl)) ?_
  refine hcons (kEqS (isX rfl) (isSx (l := [u8 46]) 1 46 rfl) (decide_eq_true rfl)) ?_
  refine hcons (kMid (P := 1) (Q := 9) (isX rfl) (.inr ⟨_, _, rfl, (isZ (m := 1) rfl)⟩) (.inl ⟨rfl, rfl⟩) (by omega) (by omega) (by simp) (denX rfl)) ?_
  refine hcons (kLenE (isX rfl) (denZ (m := 8) rfl) rfl) ?_
  refine hcons (kIdxC (isX rfl) (by simp) rfl (by omega)) ?_
  refine hcons (kIdxC (isX rfl) (by simp) rfl (by omega)) ?_
  refine hcons (kIdxC (isX rfl) (by simp) rfl (by omega)) ?_
  refine hcons (kIdxC (isX rfl) (by simp) rfl (by omega)) ?_
  refine hcons (kIdxC (isX rfl) (by simp) rfl (by omega)) ?_
  refine hcons (kIdxC (isX rfl) (by simp) rfl (by omega)) ?_
  refine hcons (kIdxC (isX rfl) (by simp) rfl (by omega)) ?_
  refine hcons (kIdxE (i := 7) (isX rfl) (isZ (m := 7) rfl) (denX rfl) rfl (by simp) (bt_at rfl (by omega) (by omega))) ?_
  refine hcons (kGe (isX rfl) (isZ (m := 97) rfl) (decide_eq_false (by omega))) ?_
  exact hnil
def hy107 : List (HK × AV) := [(.bin .rem (.x 0) (u1 11), u1 8),
  (.conv 3 (.x 1), .x 3),
  (.bin .rem (.x 3) (i6 8), i6 7),
  (.bin .geq (.x 2) (u1 97), .b true),
  (.bin .leq (.x 2) (u1 122), .b true),
  (.bytes [u1 46, u1 112, u1 112, u1 112, u1 112, u1 112, u1 112, u1 112, .x 2], .x 4),
  (.len (.x 4), i6 9),
  (.sub (.x 4) none (some (i6 1)), .x 5),
  (.bin .eql (.x 5) (.s 1 46), .b true),
  (.sub (.x 4) (some (i6 1)) none, .x 6),
  (.len (.x 6), i6 8),
  (.idx (.x 6) (i6 0), u1 112),
  (.idx (.x 6) (i6 1), u1 112),
  (.idx (.x 6) (i6 2), u1 112),
  (.idx (.x 6) (i6 3), u1 112),
  (.idx (.x 6) (i6 4), u1 112),
  (.idx (.x 6) (i6 5), u1 112),
  (.idx (.x 6) (i6 6), u1 112),
  (.idx (.x 6) (i6 7), .x 7),
  (.bin .geq (.x 7) (u1 97), .b true),
  (.bin .leq (.x 7) (u1 122), .b true),
  (.bin .neq (.x 6) (.s 0 0), .b true)]
theorem run107 : okB (call (tbl hy107) 9000 7 [.x 0, .x 1, .x 2] ⟨H0 , 7, 0, 0⟩) = true := by kernel_rfl
def nu107 (n pos chr : Int) : List Value := [.int .u8 (n),
  .int .u8 (pos),
  .int .u8 (chr),
  .int .i64 (pos),
  St' ([u8 46, u8 112, u8 112, u8 112, u8 112, u8 112, u8 112, u8 112, u8 (chr)]),
  St' ([u8 46]),
  St' ([u8 112, u8 112, u8 112, u8 112, u8 112, u8 112, u8 112, u8 (chr)]),
  .int .u8 (chr)]
theorem path107 (n pos chr : Int) (bb : BB n pos chr) (h0 : n % 11 = 8) (h1 : pos % 8 = 7) (h2 : 97 ≤ chr) (h3 : chr ≤ 122) (w : World) (hl : laidE w) : Cw #[.int .u8 n, .int .u8 pos, .int .u8 chr] w := by
  obtain ⟨fi, hfi, hb⟩ := fiE
  refine runP (tb := tbl hy107) ((tabkOk (nuL (nu107 n pos chr)) (nuL_one (l := nu107 n pos chr) rfl)).hyps ?_) rfl hfi hb (run107 ) (args := [.int .u8 n, .int .u8 pos, .int .u8 chr]) (by simp only [RelL, Rel]; exact ⟨_, _, rfl, rfl, ⟨_, _, rfl, rfl, ⟨_, _, rfl, rfl, rfl⟩⟩⟩) w hl
  obtain ⟨b0, b1, b2, b3, b4, b5⟩ := bb
  unfold hy107
  refine hcons (kRem (isX rfl) (isZ (m := 11) rfl) (denZ (m := 8) rfl) (by omega) (by omega) (by omega)) ?_
  refine hcons (kConvF (isX rfl) tu3 (denX rfl) (fI64 (by omega) (by omega))) ?_
  refine hcons (kRem (isX rfl) (isZ (m := 8) rfl) (denZ (m := 7) rfl) (by omega) (by omega) (by omega)) ?_
  refine hcons (kGe (isX rfl) (isZ (m := 97) rfl) (decide_eq_true (by omega))) ?_
  refine hcons (kLe (isX rfl) (isZ (m := 122) rfl) (decide_eq_true (by omega))) ?_
  refine hcons (kBytesB (bs := [u8 46, u8 112, u8 112, u8 112, u8 112, u8 112, u8 112, u8 112, u8 (chr)]) (bC (by omega) (bC (by omega) (bC (by omega) (bC (by omega) (bC (by omega) (bC (by omega) (bC (by omega) (bC (by omega) (.cons (isB8 (isX rfl) (by omega) (by omega)) .nil))))))))) (denX rfl)) ?_
  refine hcons (kLenE (isX rfl) (denZ (m := 9) rfl) rfl) ?_
  refine hcons (kMid (P := 0) (Q := 1) (isX rfl) (.inl ⟨rfl, rfl⟩) (.inr ⟨_, _, rfl, (isZ (m := 1) rfl)⟩) (by omega) (by omega) (by simp) (denX rfl)) ?_
  refine hcons (kEqS (isX rfl) (isSx (l := [u8 46]) 1 46 rfl) (decide_eq_true rfl)) ?_
  refine hcons (kMid (P := 1) (Q := 9) (isX rfl) (.inr ⟨_, _, rfl, (isZ (m := 1) rfl)⟩) (.inl ⟨rfl, rfl⟩) (by omega) (by omega) (by simp) (denX rfl)) ?_
  refine hcons (kLenE (isX rfl) (denZ (m := 8) rfl) rfl) ?_
  refine hcons (kIdxC (isX rfl) (by simp) rfl (by omega)) ?_
  refine hcons (kIdxC (isX rfl) (by simp) rfl (by omega)) ?_
  refine hcons (kIdxC (isX rfl) (by simp) rfl (by omega)) ?_
  refine hcons (kIdxC (isX rfl) (by simp) rfl (by omega)) ?_
  refine hcons (kIdxC (isX rfl) (by simp) rfl (by omega)) ?_
  refine hcons (kIdxC (isX rfl) (by simp) rfl (by omega)) ?_
  refine hcons (kIdxC (isX rfl) (by simp) rfl (by omega)) ?_
  refine hcons (kIdxE (i := 7) (isX rfl) (isZ (m := 7) rfl) (denX rfl) rfl (by simp) (bt_at rfl (by omega) (by omega))) ?_
  refine hcons (kGe (isX rfl) (isZ (m := 97) rfl) (decide_eq_true (by omega))) ?_
  refine hcons (kLe (isX rfl) (isZ (m := 122) rfl) (decide_eq_true (by omega))) ?_
  refine hcons (kNeS (isX rfl) (isSx (l := ([] : List UInt8)) 0 0 rfl) (bnT (by first | exact nilT (by first | omega | (simp only [List.length_append, List.length_cons, List.length_nil, List.length_take, List.length_drop, List.length_replicate, Int.natCast_add] at * <;> omega)) | exact nilF (by first | omega | (simp only [List.length_append, List.length_cons, List.length_nil, List.length_take, List.length_drop, List.length_replicate, Int.natCast_add] at * <;> omega)) | exact nilT' (by first | omega | (simp only [List.length_append, List.length_cons, List.length_nil, List.length_take, List.length_drop, List.length_replicate, Int.natCast_add] at * <;> omega)) | exact nilF' (by first | omega | (simp only [List.length_append, List.length_cons, List.length_nil, List.length_take, List.length_drop, List.length_replicate, Int.natCast_add] at * <;> omega))))) ?_
  exact hnil
end Go.Proofs.YticlhkekkfelpaaDoor.ruleExts
