/- A part of the proof: an interpreter of the model's own code on partly known states, and that what it answers is what the program answers. No condition of its own. -/
import Derived.Test.YticlhkekkfelpaaDoorB5RuleExtsO
set_option maxRecDepth 100000
set_option linter.unusedVariables false
set_option linter.unusedSimpArgs false
namespace Go.Proofs.YticlhkekkfelpaaDoor.ruleExts
open Go Go.AX Go.Proofs Go.Proofs.YticlhkekkfelpaaDoor
def hy156 : List (HK × AV) := [(.bin .rem (.x 0) (u1 11), u1 10),
  (.conv 3 (.x 1), .x 3),
  (.bin .rem (.x 3) (i6 10), i6 6),
  (.bytes [u1 46, u1 112, u1 112, u1 112, u1 112, u1 112, u1 112, .x 2, u1 112, u1 112, u1 112], .x 4),
  (.len (.x 4), i6 11),
  (.sub (.x 4) none (some (i6 1)), .x 5),
  (.bin .eql (.x 5) (.s 1 46), .b true),
  (.sub (.x 4) (some (i6 1)) none, .x 6),
  (.len (.x 6), i6 10),
  (.idx (.x 6) (i6 0), u1 112),
  (.idx (.x 6) (i6 1), u1 112),
  (.idx (.x 6) (i6 2), u1 112),
  (.idx (.x 6) (i6 3), u1 112),
  (.idx (.x 6) (i6 4), u1 112),
  (.idx (.x 6) (i6 5), u1 112),
  (.idx (.x 6) (i6 6), .x 7),
  (.bin .geq (.x 7) (u1 97), .b true),
  (.bin .leq (.x 7) (u1 122), .b false)]
theorem run156 : okB (call (tbl hy156) 9000 7 [.x 0, .x 1, .x 2] ⟨H0 , 7, 0, 0⟩) = true := by kernel_rfl
def nu156 (n pos chr : Int) : List Value := [.int .u8 (n),
  .int .u8 (pos),
  .int .u8 (chr),
  .int .i64 (pos),
  St' ([u8 46, u8 112, u8 112, u8 112, u8 112, u8 112, u8 112, u8 (chr), u8 112, u8 112, u8 112]),
  St' ([u8 46]),
  St' ([u8 112, u8 112, u8 112, u8 112, u8 112, u8 112, u8 (chr), u8 112, u8 112, u8 112]),
  .int .u8 (chr)]
theorem path156 (n pos chr : Int) (bb : BB n pos chr) (h0 : n % 11 = 10) (h1 : pos % 10 = 6) (h2 : 97 ≤ chr) (h3 : ¬ (chr ≤ 122)) (w : World) (hl : laidE w) : Cw #[.int .u8 n, .int .u8 pos, .int .u8 chr] w := by
  obtain ⟨fi, hfi, hb⟩ := fiE
  refine runP (tb := tbl hy156) ((tabkOk (nuL (nu156 n pos chr)) (nuL_one (l := nu156 n pos chr) rfl)).hyps ?_) rfl hfi hb (run156 ) (args := [.int .u8 n, .int .u8 pos, .int .u8 chr]) (by simp only [RelL, Rel]; exact ⟨_, _, rfl, rfl, ⟨_, _, rfl, rfl, ⟨_, _, rfl, rfl, rfl⟩⟩⟩) w hl
  obtain ⟨b0, b1, b2, b3, b4, b5⟩ := bb
  unfold hy156
  refine hcons (kRem (isX rfl) (isZ (m := 11) rfl) (denZ (m := 10) rfl) (by omega) (by omega) (by omega)) ?_
  refine hcons (kConvF (isX rfl) tu3 (denX rfl) (fI64 (by omega) (by omega))) ?_
  refine hcons (kRem (isX rfl) (isZ (m := 10) rfl) (denZ (m := 6) rfl) (by omega) (by omega) (by omega)) ?_
  refine hcons (kBytesB (bs := [u8 46, u8 112, u8 112, u8 112, u8 112, u8 112, u8 112, u8 (chr), u8 112, u8 112, u8 112]) (bC (by omega) (bC (by omega) (bC (by omega) (bC (by omega) (bC (by omega) (bC (by omega) (bC (by omega) (.cons (isB8 (isX rfl) (by omega) (by omega)) (bC (by omega) (bC (by omega) (bC (by omega) .nil))))))))))) (denX rfl)) ?_
  refine hcons (kLenE (isX rfl) (denZ (m := 11) rfl) rfl) ?_
  refine hcons (kMid (P := 0) (Q := 1) (isX rfl) (.inl ⟨rfl, rfl⟩) (.inr ⟨_, _, rfl, (isZ (m := 1) rfl)⟩) (by omega) (by omega) (by simp) (denX rfl)) ?_
  refine hcons (kEqS (isX rfl) (isSx (l := [u8 46]) 1 46 rfl) (decide_eq_true rfl)) ?_
  refine hcons (kMid (P := 1) (Q := 11) (isX rfl) (.inr ⟨_, _, rfl, (isZ (m := 1) rfl)⟩) (.inl ⟨rfl, rfl⟩) (by omega) (by omega) (by simp) (denX rfl)) ?_
  refine hcons (kLenE (isX rfl) (denZ (m := 10) rfl) rfl) ?_
  refine hcons (kIdxC (isX rfl) (by simp) rfl (by omega)) ?_
  refine hcons (kIdxC (isX rfl) (by simp) rfl (by omega)) ?_
  refine hcons (kIdxC (isX rfl) (by simp) rfl (by omega)) ?_
  refine hcons (kIdxC (isX rfl) (by simp) rfl (by omega)) ?_
  refine hcons (kIdxC (isX rfl) (by simp) rfl (by omega)) ?_
  refine hcons (kIdxC (isX rfl) (by simp) rfl (by omega)) ?_
  refine hcons (kIdxE (i := 6) (isX rfl) (isZ (m := 6) rfl) (denX rfl) rfl (by simp) (bt_at rfl (by omega) (by omega))) ?_
  refine hcons (kGe (isX rfl) (isZ (m := 97) rfl) (decide_eq_true (by omega))) ?_
  refine hcons (kLe (isX rfl) (isZ (m := 122) rfl) (decide_eq_false (by omega))) ?_
  exact hnil
def hy157 : List (HK × AV) := [(.bin .rem (.x 0) (u1 11), u1 10),
  (.conv 3 (.x 1), .x 3),
  (.bin .rem (.x 3) (i6 10), i6 7),
  (.bytes [u1 46, u1 112, u1 112, u1 112, u1 112, u1 112, u1 112, u1 112, .x 2, u1 112, u1 112], .x 4),
  (.len (.x 4), i6 11),
  (.sub (.x 4) none (some (i6 1)), .x 5),
  (.bin .eql (.x 5) (.s 1 46), .b true),
  (.sub (.x 4) (some (i6 1)) none, .x 6),
  (.len (.x 6), i6 10),
  (.idx (.x 6) (i6 0), u1 112),
  (.idx (.x 6) (i6 1), u1 112),
  (.idx (.x 6) (i6 2), u1 112),
  (.idx (.x 6) (i6 3), u1 112),
  (.idx (.x 6) (i6 4), u1 112),
  (.idx (.x 6) (i6 5), u1 112),
  (.idx (.x 6) (i6 6), u1 112),
  (.idx (.x 6) (i6 7), .x 7),
  (.bin .geq (.x 7) (u1 97), .b false)]
theorem run157 : okB (call (tbl hy157) 9000 7 [.x 0, .x 1, .x 2] ⟨H0 , 7, 0, 0⟩) = true := by kernel_rfl
def nu157 (n pos chr : Int) : List Value := [.int .u8 (n),
  .int .u8 (pos),
  .int .u8 (chr),
  .int .i64 (pos),
  St' ([u8 46, u8 112, u8 112, u8 112, u8 112, u8 112, u8 112, u8 112, u8 (chr), u8 112, u8 112]),
  St' ([u8 46]),
  St' ([u8 112, u8 112, u8 112, u8 112, u8 112, u8 112, u8 112, u8 (chr), u8 112, u8 112]),
  .int .u8 (chr)]
theorem path157 (n pos chr : Int) (bb : BB n pos chr) (h0 : n % 11 = 10) (h1 : pos % 10 = 7) (h2 : ¬ (97 ≤ chr)) (w : World) (hl : laidE w) : Cw #[.int .u8 n, .int .u8 pos, .int .u8 chr] w := by
  obtain ⟨fi, hfi, hb⟩ := fiE
  refine runP (tb := tbl hy157) ((tabkOk (nuL (nu157 n pos chr)) (nuL_one (l := nu157 n pos chr) rfl)).hyps ?_) rfl hfi hb (run157 ) (args := [.int .u8 n, .int .u8 pos, .int .u8 chr]) (by simp only [RelL, Rel]; exact ⟨_, _, rfl, rfl, ⟨_, _, rfl, rfl, ⟨_, _, rfl, rfl, rfl⟩⟩⟩) w hl
  obtain ⟨b0, b1, b2, b3, b4, b5⟩ := bb
  unfold hy157
  refine hcons (kRem (isX rfl) (isZ (m := 11) rfl) (denZ (m := 10) rfl) (by omega) (by omega) (by omega)) ?_
  refine hcons (kConvF (isX rfl) tu3 (denX rfl) (fI64 (by omega) (by omega))) ?_
  refine hcons (kRem (isX rfl) (isZ (m := 10) rfl) (denZ (m := 7) rfl) (by omega) (by omega) (by omega)) ?_
  refine hcons (kBytesB (bs := [u8 46, u8 112, u8 112, u8 112, u8 112, u8 112, u8 112, u8 112, u8 (chr), u8 112, u8 112]) (bC (by omega) (bC (by omega) (bC (by omega) (bC (by omega) (bC (by omega) (bC (by omega) (bC (by omega) (bC (by omega) (.cons (isB8 (isX rfl) (by omega) (by omega)) (bC (by omega) (bC (by omega) .nil))))))))))) (denX rfl)) ?_
  refine hcons (kLenE (isX rfl) (denZ (m := 11) rfl) rfl) ?_
  refine hcons (kMid (P := 0) (Q := 1) (isX rfl) (.inl ⟨rfl, rfl⟩) (.inr ⟨_, _, rfl, (isZ (m := 1) rfl)⟩) (by omega) (by omega) (by simp) (denX rfl)) ?_
  refine hcons (kEqS (isX rfl) (isSx (l := [u8 46]) 1 46 rfl) (decide_eq_true rfl)) ?_
  refine hcons (kMid (P := 1) (Q := 11) (isX rfl) (.inr ⟨_, _, rfl, (isZ (m := 1) rfl)⟩) (.inl ⟨rfl, rfl⟩) (by omega) (by omega) (by simp) (denX rfl)) ?_
  refine hcons (kLenE (isX rfl) (denZ (m := 10) rfl) rfl) ?_
  refine hcons (kIdxC (isX rfl) (by simp) rfl (by omega)) ?_
  refine hcons (kIdxC (isX rfl) (by simp) rfl (by omega)) ?_
  refine hcons (kIdxC (isX rfl) (by simp) rfl (by omega)) ?_
  refine hcons (kIdxC (isX rfl) (by simp) rfl (by omega)) ?_
  refine hcons (kIdxC (isX rfl) (by simp) rfl (by omega)) ?_
  refine hcons (kIdxC (isX rfl) (by simp) rfl (by omega)) ?_
  refine hcons (kIdxC (isX rfl) (by simp) rfl (by omega)) ?_
  refine hcons (kIdxE (i := 7) (isX rfl) (isZ (m := 7) rfl) (denX rfl) rfl (by simp) (bt_at rfl (by omega) (by omega))) ?_
  refine hcons (kGe (isX rfl) (isZ (m := 97) rfl) (decide_eq_false (by omega))) ?_
  exact hnil
def hy158 : List (HK × AV) := [(.bin .rem (.x 0) (u1 11), u1 10),
  (.conv 3 (.x 1), .x 3),
  (.bin .rem (.x 3) (i6 10), i6 7),
  (.bytes [u1 46, u1 112, u1 112, u1 112, u1 112, u1 112, u1 112, u1 112, .x 2, u1 112, u1 112], .x 4),
  (.len (.x 4), i6 11),
  (.sub (.x 4) none (some (i6 1)), .x 5),
  (.bin .eql (.x 5) (.s 1 46), .b true),
  (.sub (.x 4) (some (i6 1)) none, .x 6),
  (.len (.x 6), i6 10),
  (.idx (.x 6) (i6 0), u1 112),
  (.idx (.x 6) (i6 1), u1 112),
  (.idx (.x 6) (i6 2), u1 112),
  (.idx (.x 6) (i6 3), u1 112),
  (.idx (.x 6) (i6 4), u1 112),
  (.idx (.x 6) (i6 5), u1 112),
  (.idx (.x 6) (i6 6), u1 112),
  (.idx (.x 6) (i6 7), .x 7),
  (.bin .geq (.x 7) (u1 97), .b true),
  (.bin .leq (.x 7) (u1 122), .b true),
  (.idx (.x 6) (i6 8), u1 112),
  (.idx (.x 6) (i6 9), u1 112),
  (.bin .neq (.x 6) (.s 0 0), .b true)]
theorem run158 : okB (call (tbl hy158) 9000 7 [.x 0, .x 1, .x 2] ⟨H0 , 7, 0, 0⟩) = true := by kernel_rfl
def nu158 (n pos chr : Int) : List Value := [.int .u8 (n),
  .int .u8 (pos),
  .int .u8 (chr),
  .int .i64 (pos),
  St' ([u8 46, u8 112, u8 112, u8 112, u8 112, u8 112, u8 112, u8 112, u8 (chr), u8 112, u8 112]),
  St' ([u8 46]),
  St' ([u8 112, u8 112, u8 112, u8 112, u8 112, u8 112, u8 112, u8 (chr), u8 112, u8 112]),
  .int .u8 (chr)]
theorem path158 (n pos chr : Int) (bb : BB n pos chr) (h0 : n % 11 = 10) (h1 : pos % 10 = 7) (h2 : 97 ≤ chr) (h3 : chr ≤ 122) (w : World) (hl : laidE w) : Cw #[.int .u8 n, .int .u8 pos, .int .u8 chr] w := by
  obtain ⟨fi, hfi, hb⟩ := fiE
  refine runP (tb := tbl hy158) ((tabkOk (nuL (nu158 n pos chr)) (nuL_one (l := nu158 n pos chr) rfl)).hyps ?_) rfl hfi hb (run158 ) (args := [.int .u8 n, .int .u8 pos, .int .u8 chr]) (by simp only [RelL, Rel]; exact ⟨_, _, rfl, rfl, ⟨_, _, rfl, rfl, ⟨_, _, rfl, rfl, rfl⟩⟩⟩) w hl
  obtain ⟨b0, b1, b2, b3, b4, b5⟩ := bb
  unfold hy158
  refine hcons (kRem (isX rfl) (isZ (m := 11) rfl) (denZ (m := 10) rfl) (by omega) (by omega) (by omega)) ?_
  refine hcons (kConvF (isX rfl) tu3 (denX rfl) (fI64 (by omega) (by omega))) ?_
  refine hcons (kRem (isX rfl) (isZ (m := 10) rfl) (denZ (m := 7) rfl) (by omega) (by omega) (by omega)) ?_
  refine hcons (kBytesB (bs := [u8 46, u8 112, u8 112, u8 112, u8 112, u8 112, u8 112, u8 112, u8 (chr), u8 112, u8 112]) (bC (by omega) (bC (by omega) (bC (by omega) (bC (by omega) (bC (by omega) (bC (by omega) (bC (by omega) (bC (by omega) (.cons (isB8 (isX rfl) (by omega) (by omega)) (bC (by omega) (bC (by omega) .nil))))))))))) (denX rfl)) ?_
  refine hcons (kLenE (isX rfl) (denZ (m := 11) rfl) rfl) ?_
  refine hcons (kMid (P := 0) (Q := 1) (isX rfl) (.inl ⟨rfl, rfl⟩) (.inr ⟨_, _, rfl, (isZ (m := 1) rfl)⟩) (by omega) (by omega) (by simp) (denX rfl)) ?_
  refine hcons (kEqS (isX rfl) (isSx (l := [u8 46]) 1 46 rfl) (decide_eq_true rfl)) ?_
  refine hcons (kMid (P := 1) (Q := 11) (isX rfl) (.inr ⟨_, _, rfl, (isZ (m := 1) rfl)⟩) (.inl ⟨rfl, rfl⟩) (by omega) (by omega) (by simp) (denX rfl)) ?_
  refine hcons (kLenE (isX rfl) (denZ (m := 10) rfl) rfl) ?_
  refine hcons (kIdxC (isX rfl) (by simp) rfl (by omega)) ?_
  refine hcons (kIdxC (isX rfl) (by simp) rfl (by omega)) ?_
  refine hcons (kIdxC (isX rfl) (by simp) rfl (by omega)) ?_
  refine hcons (kIdxC (isX rfl) (by simp) rfl (by omega)) ?_
  refine hcons (kIdxC (isX rfl) (by simp) rfl (by omega)) ?_
  refine hcons (kIdxC (isX rfl) (by simp) rfl (by omega)) ?_
  refine hcons (kIdxC (isX rfl) (by simp) rfl (by omega)) ?_
  refine hcons (kIdxE (i := 7) (isX rfl) (isZ (m := 7) rfl) (denX rfl) rfl (by simp) (bt_at rfl (by omega) (by omega))) ?_
  refine hcons (kGe (isX rfl) (isZ (m := 97) rfl) (decide_eq_true (by omega))) ?_
  refine hcons (kLe (isX rfl) (isZ (m := 122) rfl) (decide_eq_true (by omega))) ?_
  refine hcons (kIdxC (isX rfl) (by simp) rfl (by omega)) ?_
  refine hcons (kIdxC (isX rfl) (by simp) rfl (by omega)) ?_
  refine hcons (kNeS (isX rfl) (isSx (l := ([] : List UInt8)) 0 0 rfl) (bnT (by first | exact nilT (by first | omega | (simp only [List.length_append, List.length_cons, List.length_nil, List.length_take, List.length_drop, List.length_replicate, Int.natCast_add] at * <;> omega)) | exact nilF (by first | omega | (simp only [List.length_append, List.length_cons, List.length_nil, List.length_take, List.length_drop, List.length_replicate, Int.natCast_add] at * <;> omega)) | exact nilT' (by first | omega | (simp only [List.length_append, List.length_cons, List.length_nil, List.length_take, List.length_drop, List.length_replicate, Int.natCast_add] at * <;> omega)) | exact nilF' (by first | omega | (simp only [List.length_append, List.length_cons, List.length_nil, List.length_take, List.length_drop, List.length_replicate, Int.natCast_add] at * <;> omega))))) ?_
  exact hnil
def hy159 : List (HK × AV) := [(.bin .rem (.x 0) (u1 11), u1 10),
  (.conv 3 (.x 1), .x 3),
  (.bin .rem (.x 3) (i6 10), i6 7),
  (.bytes [u1 46, u1 112, u1 112, u1 112, u1 112, u1 112, u1 112, u1 112, .x 2, u1 112, u1 112], .x 4),
  (.len (.x 4), i6 11),
  (.sub (.x 4) none (some (i6 1)), .x 5),
  (.bin .eql (.x 5) (.s 1 46), .b true),
  (.sub (.x 4) (some (i6 1)) none, .x 6),
  (.len (.x 6), i6 10),
  (.idx (.x 6) (i6 0), u1 112),
  (.idx (.x 6) (i6 1), u1 112),
  (.idx (.x 6) (i6 2), u1 112),
  (.idx (.x 6) (i6 3), u1 112),
  (.idx (.x 6) (i6 4), u1 112),
  (.idx (.x 6) (i6 5), u1 112),
  (.idx (.x 6) (i6 6), u1 112),
  (.idx (.x 6) (i6 7), .x 7),
  (.bin .geq (.x 7) (u1 97), .b true),
  (.bin .leq (.x 7) (u1 122), .b false)]
theorem run159 : okB (call (tbl hy159) 9000 7 [.x 0, .x 1, .x 2] ⟨H0 , 7, 0, 0⟩) = true := by kernel_rfl
def nu159 (n pos chr : Int) : List Value := [.int .u8 (n),
  .int .u8 (pos),
  .int .u8 (chr),
  .int .i64 (pos),
  St' ([u8 46, u8 112, u8 112, u8 112, u8 112, u8 112, u8 112, u8 112, u8 (chr), u8 112, u8 112]),
  St' ([u8 46]),
  St' ([u8 112, u8 112, u8 112, u8 112, u8 112, u8 112, u8 112, u8 (chr), u8 112, u8 112]),
  .int .u8 (chr)]
theorem path159 (n pos chr : Int) (bb : BB n pos chr) (h0 : n % 11 = 10) (h1 : pos % 10 = 7) (h2 : 97 ≤ chr) (h3 : ¬ (chr ≤ 122)) (w : World) (hl : laidE w) : Cw #[.int .u8 n, .int .u8 pos, .int .u8 chr] w := by
  obtain ⟨fi, hfi, hb⟩ := fiE
  refine runP (tb := tbl hy159) ((tabkOk (nuL (nu159 n pos chr)) (nuL_one (l := nu159 n pos chr) rfl)).hyps ?_) rfl hfi hb (run159 ) (args := [.int .u8 n, .int .u8 pos, .int .u8 chr]) (by simp only [RelL, Rel]; exact ⟨_, _, rfl, rfl, ⟨_, _, rfl, rfl, ⟨_, _, rfl, rfl, rfl⟩⟩⟩) w hl
  obtain ⟨b0, b1, b2, b3, b4, b5⟩ := bb
  unfold hy159
  refine hcons (kRem (isX rfl) (isZ (m := 11) rfl) (denZ (m := 10) rfl) (by omega) (by omega) (by omega)) ?_
  refine hcons (kConvF (isX rfl) tu3 (denX rfl) (fI64 (by omega) (by omega))) ?_
  refine hcons (kRem (isX rfl) (isZ (m := 10) rfl) (denZ (m := 7) rfl) (by omega) (by omega) (by omega)) ?_
  refine hcons (kBytesB (bs := [u8 46, u8 112, u8 112, u8 112, u8 112, u8 112, u8 112, u8 112, u8 (chr), u8 112, u8 112]) (bC (by omega) (bC (by omega) (bC (by omega) (bC (by omega) (bC (by omega) (bC (by omega) (bC (by omega) (bC (by omega) (.cons (isB8 (isX rfl) (by omega) (by omega)) (bC (by omega) (bC (by omega) .nil))))))))))) (denX rfl)) ?_
  refine hcons (kLenE (isX rfl) (denZ (m := 11) rfl) rfl) ?_
  refine hcons (kMid (P := 0) (Q := 1) (isX rfl) (.inl ⟨rfl, rfl⟩) (.inr ⟨_, _, rfl, (isZ (m := 1) rfl)⟩) (by omega) (by omega) (by simp) (denX rfl)) ?_
  refine hcons (kEqS (isX rfl) (isSx (l := [u8 46]) 1 46 rfl) (decide_eq_true rfl)) ?_
  refine hcons (kMid (P := 1) (Q := 11) (isX rfl) (.inr ⟨_, _, rfl, (isZ (m := 1) rfl)⟩) (.inl ⟨rfl, rfl⟩) (by omega) (by omega) (by simp) (denX rfl)) ?_
  refine hcons (kLenE (isX rfl) (denZ (m := 10) rfl) rfl) ?_
  refine hcons (kIdxC (isX rfl) (by simp) rfl (by omega)) ?_
  refine hcons (kIdxC (isX rfl) (by simp) rfl (by omega)) ?_
  refine hcons (kIdxC (isX rfl) (by simp) rfl (by omega)) ?_
  refine hcons (kIdxC (isX rfl) (by simp) rfl (by omega)) ?_
  refine hcons (kIdxC (isX rfl) (by simp) rfl (by omega)) ?_
  refine hcons (kIdxC (isX rfl) (by simp) rfl (by omega)) ?_
  refine hcons (kIdxC (isX rfl) (by simp) rfl (by omega)) ?_
  refine hcons (kIdxE (i := 7) (isX rfl) (isZ (m := 7) rfl) (denX rfl) rfl (by simp) (bt_at rfl (by omega) (by omega))) ?_
  refine hcons (kGe (isX rfl) (isZ (m := 97) rfl) (decide_eq_true (by omega))) ?_
  refine hcons (kLe (isX rfl) (isZ (m := 122) rfl) (decide_eq_false (by omega))) ?_
  exact hnil
def hy160 : List (HK × AV) := [(.bin .rem (.x 0) (u1 11), u1 10),
  (.conv 3 (.x 1), .x 3),
  (.bin .rem (.x 3) (i6 10), i6 8),
  (.bytes [u1 46, u1 112, u1 112, u1 112, u1 112, u1 112, u1 112, u1 112, u1 112, .x 2, u1 112], .x 4),
  (.len (.x 4), i6 11),
  (.sub (.x 4) none (some (i6 1)), .x 5),
  (.bin .eql (.x 5) (.s 1 46), .b true),
  (.sub (.x 4) (some (i6 1)) none, .x 6),
  (.len (.x 6), i6 10),
  (.idx (.x 6) (i6 0), u1 112),
  (.idx (.x 6) (i6 1), u1 112),
  (.idx (.x 6) (i6 2), u1 112),
  (.idx (.x 6) (i6 3), u1 112),
  (.idx (.x 6) (i6 4), u1 112),
  (.idx (.x 6) (i6 5), u1 112),
  (.idx (.x 6) (i6 6), u1 112),
  (.idx (.x 6) (i6 7), u1 112),
  (.idx (.x 6) (i6 8), .x 7),
  (.bin .geq (.x 7) (u1 97), .b false)]
theorem run160 : okB (call (tbl hy160) 9000 7 [.x 0, .x 1, .x 2] ⟨H0 , 7, 0, 0⟩) = true := by kernel_rfl
def nu160 (n pos chr : Int) : List Value := [.int .u8 (n),
  .int .u8 (pos),
  .int .u8 (chr),
  .int .i64 (pos),
  St' ([u8 46, u8 112, u8 112, u8 112, u8 112, u8 112, u8 112, u8 112, u8 112, u8 (chr), u8 112]),
  St' ([u8 46]),
  St' ([u8 112, u8 112, u8 112, u8 112, u8 112, u8 112, u8 112, u8 112, u8 (chr), u8 112]),
  .int .u8 (chr)]
theorem path160 (n pos chr : Int) (bb : BB n pos chr) (h0 : n % 11 = 10) (h1 : pos % 10 = 8) (h2 : ¬ (97 ≤ chr)) (w : World) (hl : laidE w) : Cw #[.int .u8 n, .int .u8 pos, .int .u8 chr] w := by
  obtain ⟨fi, hfi, hb⟩ := fiE
  refine runP (tb := tbl hy160) ((tabkOk (nuL (nu160 n pos chr)) (nuL_one (l := nu160 n pos chr) rfl)).hyps ?_) rfl hfi hb (run160 ) (args := [.int .u8 n, .int .u8 pos, .int .u8 chr]) (by simp only [RelL, Rel]; exact ⟨_, _, rfl, rfl, ⟨_, _, rfl, rfl, ⟨_, _, rfl, rfl, rfl⟩⟩⟩) w hl
  obtain ⟨b0, b1, b2, b3, b4, b5⟩ := bb
  unfold hy160
  refine hcons (kRem (isX rfl) (isZ (m := 11) rfl) (denZ (m := 10) rfl) (by omega) (by omega) (by omega)) ?_
  refine hcons (kConvF (isX rfl) tu3 (denX rfl) (fI64 (by omega) (by omega))) ?_
  refine hcons (kRem (isX rfl) (isZ (m := 10) rfl) (denZ (m := 8) rfl) (by omega) (by omega) (by omega)) ?_
  refine hcons (kBytesB (bs := [u8 46, u8 112, u8 112, u8 112, u8 112, u8 112, u8 112, u8 112, u8 112, u8 (chr), u8 112]) (bC (by omega) (bC (by omega) (bC (by omega) (bC (by omega) (bC (by omega) (bC (by omega) (bC (by omega) (bC (by omega) (bC (by omega) (.cons (isB8 (isX rfl) (by omega) (by omega)) (bC (by omega) .nil))))))))))) (denX rfl)) ?_
  refine hcons (kLenE (isX rfl) (denZ (m := 11) rfl) rfl) ?_
  refine hcons (kMid (P := 0) (Q := 1) (isX rfl) (.inl ⟨rfl, rfl⟩) (.inr ⟨_, _, rfl, (isZ (m := 1) rfl)⟩) (by omega) (by omega) (by simp) (denX rfl)) ?_
  refine hcons (kEqS (isX rfl) (isSx (l := [u8 46]) 1 46 rfl) (decide_eq_true rfl)) ?_
  refine hcons (kMid (P := 1) (Q := 11) (isX rfl) (.inr ⟨_, _, rfl, (isZ (m := 1) rfl)⟩) (.inl ⟨rfl, rfl⟩) (by omega) (by omega) (by simp) (denX rfl)) ?_
  refine hcons (kLenE (isX rfl) (denZ (m := 10) rfl) rfl) ?_
  refine hcons (kIdxC (isX rfl) (by simp) rfl (by omega)) ?_
  refine hcons (kIdxC (isX rfl) (by simp) rfl (by omega)) ?_
  refine hcons (kIdxC (isX rfl) (by simp) rfl (by omega)) ?_
  refine hcons (kIdxC (isX rfl) (by simp) rfl (by omega)) ?_
  refine hcons (kIdxC (isX rfl) (by simp) rfl (by omega)) ?_
  refine hcons (kIdxC (isX rfl) (by simp) rfl (by omega)) ?_
  refine hcons (kIdxC (isX rfl) (by simp) rfl (by omega)) ?_
  refine hcons (kIdxC (isX rfl) (by simp) rfl (by omega)) ?_
  refine hcons (kIdxE (i := 8) (isX rfl) (isZ (m := 8) rfl) (denX rfl) rfl (by simp) (bt_at rfl (by omega) (by omega))) ?_
  refine hcons (kGe (isX rfl) (isZ (m := 97) rfl) (decide_eq_false (by omega))) ?_
  exact hnil
def hy161 : List (HK × AV) := [(.bin .rem (.x 0) (u1 11), u1 10),
  (.conv 3 (.x 1), .x 3),
  (.bin .rem (.x 3) (i6 10), i6 8),
  (.bytes [u1 46, u1 112, u1 112, u1 112, u1 112, u1 112, u1 112, u1 112, u1 112, .x 2, u1 112], .x 4),
  (.len (.x 4), i6 11),
  (.sub (.x 4) none (some (i6 1)), .x 5),
  (.bin .eql (.x 5) (.s 1 46), .b true),
  (.sub (.x 4) (some (i6 1)) none, .x 6),
  (.len (.x 6), i6 10),
  (.idx (.x 6) (i6 0), u1 112),
  (.idx (.x 6) (i6 1), u1 112),
  (.idx (.x 6) (i6 2), u1 112),
  (.idx (.x 6) (i6 3), u1 112),
  (.idx (.x 6) (i6 4), u1 112),
  (.idx (.x 6) (i6 5), u1 112),
  (.idx (.x 6) (i6 6), u1 112),
  (.idx (.x 6) (i6 7), u1 112),
  (.idx (.x 6) (i6 8), .x 7),
  (.bin .geq (.x 7) (u1 97), .b true),
  (.bin .leq (.x 7) (u1 122), .b true),
  (.idx (.x 6) (i6 9), u1 112),
  (.bin .neq (.x 6) (.s 0 0), .b true)]
theorem run161 : okB (call (tbl hy161) 9000 7 [.x 0, .x 1, .x 2] ⟨H0 , 7, 0, 0⟩) = true := by kernel_rfl
def nu161 (n pos chr : Int) : List Value := [.int .u8 (n),
  .int .u8 (pos),
  .int .u8 (chr),
  .int .i64 (pos),
  St' ([u8 46, u8 112, u8 112, u8 112, u8 112, u8 112, u8 112, u8 112, u8 112, u8 (chr), u8 112]),
  St' ([u8 46]),
  St' ([u8 112, u8 112, u8 112, u8 112, u8 112, u8 112, u8 112, u8 112, u8 (chr), u8 112]),
  .int .u8 (chr)]
theorem path161 (n pos chr : Int) (bb : BB n pos chr) (h0 : n % 11 = 10) (h1 : pos % 10 = 8) (h2 : 97 ≤ chr) (h3 : chr ≤ 122) (w : World) (hl : laidE w) : Cw #[.int .u8 n, .int .u8 pos, .int .u8 chr] w := by
  obtain ⟨fi, hfi, hb⟩ := fiE
  refine runP (tb := tbl hy161) ((tabkOk (nuL (nu161 n pos chr)) (nuL_one (l := nu161 n pos chr) rfl)).hyps ?_) rfl hfi hb (run161 ) (args := [.int .u8 n, .int .u8 pos, .int .u8 chr]) (by simp only [RelL, Rel]; exact ⟨_, _, rfl, rfl, ⟨_, _, rfl, rfl, ⟨_, _, rfl, rfl, rfl⟩⟩⟩) w hl
  obtain ⟨b0, b1, b2, b3, b4, b5⟩ := bb
  unfold hy161
  refine hcons (kRem (isX rfl) (isZ (m := 11) rfl) (denZ (m := 10) rfl) (by omega) (by omega) (by omega)) ?_
  refine hcons (kConvF (isX rfl) tu3 (denX rfl) (fI64 (by omega) (by omega))) ?_
  refine hcons (kRem (isX rfl) (isZ (m := 10) rfl) (denZ (m := 8) rfl) (by omega) (by omega) (by omega)) ?_
  refine hcons (kBytesB (bs := [u8 46, u8 112, u8 112, u8 112, u8 112, u8 112, u8 112, u8 112, u8 112, u8 (chr), u8 112]) (bC (by omega) (bC (by omega) (bC (by omega) (bC (by omega) (bC (by omega) (bC (by omega) (bC (by omega) (bC (by omega) (bC (by omega) (.cons (isB8 (isX rfl) (by omega) (by omega)) (bC (by omega) .nil))))))))))) (denX rfl)) ?_
  refine hcons (kLenE (isX rfl) (denZ (m := 11) rfl) rfl) ?_
  refine hcons (kMid (P := 0) (Q := 1) (isX rfl) (.inl ⟨rfl, rfl⟩) (.inr ⟨_, _, rfl, (isZ (m := 1) rfl)⟩) (by omega) (by omega) (by simp) (denX rfl)) ?_
  refine hcons (kEqS (isX rfl) (isSx (l := [u8 46]) 1 46 rfl) (decide_eq_true rfl)) ?_
  refine hcons (kMid (P := 1) (Q := 11) (isX rfl) (.inr ⟨_, _, rfl, (isZ (m := 1) rfl)⟩) (.inl ⟨rfl, rfl⟩) (by omega) (by omega) (by simp) (denX rfl)) ?_
  refine hcons (kLenE (isX rfl) (denZ (m := 10) rfl) rfl) ?_
  refine hcons (kIdxC (isX rfl) (by simp) rfl (by omega)) ?_
  refine hcons (kIdxC (isX rfl) (by simp) rfl (by omega)) ?_
  refine hcons (kIdxC (isX rfl) (by simp) rfl (by omega)) ?_
  refine hcons (kIdxC (isX rfl) (by simp) rfl (by omega)) ?_
  refine hcons (kIdxC (isX rfl) (by simp) rfl (by omega)) ?_
  refine hcons (kIdxC (isX rfl) (by simp) rfl (by omega)) ?_
  refine hcons (kIdxC (isX rfl) (by simp) rfl (by omega)) ?_
  refine hcons (kIdxC (isX rfl) (by simp) rfl (by omega)) ?_
  refine hcons (kIdxE (i := 8) (isX rfl) (isZ (m := 8) rfl) (denX rfl) rfl (by simp) (bt_at rfl (by omega) (by omega))) ?_
  refine hcons (kGe (isX rfl) (isZ (m := 97) rfl) (decide_eq_true (by omega))) ?_
  refine hcons (kLe (isX rfl) (isZ (m := 122) rfl) (decide_eq_true (by omega))) ?_
  refine hcons (kIdxC (isX rfl) (by simp) rfl (by omega)) ?_
  refine hcons (kNeS (isX rfl) (isSx (l := ([] : List UInt8)) 0 0 rfl) (bnT (by first | exact nilT (by first | omega | (simp only [List.length_append, List.length_cons, List.length_nil, List.length_take, List.length_drop, List.length_replicate, Int.natCast_add] at * <;> omega)) | exact nilF (by first | omega | (simp only [List.length_append, List.length_cons, List.length_nil, List.length_take, List.length_drop, List.length_replicate, Int.natCast_add] at * <;> omega)) | exact nilT' (by first | omega | (simp only [List.length_append, List.length_cons, List.length_nil, List.length_take, List.length_drop, List.length_replicate, Int.natCast_add] at * <;> omega)) | exact nilF' (by first | omega | (simp only [List.length_append, List.length_cons, List.length_nil, List.length_take, List.length_drop, List.length_replicate, Int.natCast_add] at * <;> omega))))) ?_
  exact hnil
def hy162 : List (HK × AV) := [(.bin .rem (.x 0) (u1 11), u1 10),
  (.conv 3 (.x 1), .x 3),
  (.bin .rem (.x 3) (i6 10), i6 8),
  (.bytes [u1 46, u1 112, u1 112, u1 112, u1 112, u1 112, u1 112, u1 112, u1 112, .x 2, u1 112], .x 4),
  (.len (.x 4), i6 11),
  (.sub (.x 4) none (some (i6 1)), .x 5),
  (.bin .eql (.x 5) (.s 1 46), .b true),
  (.sub (.x 4) (some (i6 1)) none, .x 6),
  (.len (.x 6), i6 10),
  (.idx (.x 6) (i6 0), u1 112),
  (.idx (.x 6) (i6 1), u1 112),
  (.idx (.x 6) (i6 2), u1 112),
  (.idx (.x 6) (i6 3), u1 112),
  (.idx (.x 6) (i6 4), u1 112),
  (.idx (.x 6) (i6 5), u1 112),
  (.idx (.x 6) (i6 6), u1 112),
  (.idx (.x 6) (i6 7), u1 112),
  (.idx (.x 6) (i6 8), .x 7),
  (.bin .geq (.x 7) (u1 97), .b true),
  (.bin .leq (.x 7) (u1 122), .b false)]
theorem run162 : okB (call (tbl hy162) 9000 7 [.x 0, .x 1, .x 2] ⟨H0 , 7, 0, 0⟩) = true := by kernel_rfl
def nu162 (n pos chr : Int) : List Value := [.int .u8 (n),
  .int .u8 (pos),
  .int .u8 (chr),
  .int .i64 (pos),
  St' ([u8 46, u8 112, u8 112, u8 112, u8 112, u8 112, u8 112, u8 112, u8 112, u8 (chr), u8 112]),
  St' ([u8 46]),
  St' ([u8 112, u8 112, u8 112, u8 112, u8 112, u8 112, u8 112, u8 112, u8 (chr), u8 112]),
  .int .u8 (chr)]
theorem path162 (n pos chr : Int) (bb : BB n pos chr) (h0 : n % 11 = 10) (h1 : pos % 10 = 8) (h2 : 97 ≤ chr) (h3 : ¬ (chr ≤ 122)) (w : World) (hl : laidE w) : Cw #[.int .u8 n, .int .u8 pos, .int .u8 chr] w := by
  obtain ⟨fi, hfi, hb⟩ := fiE
  refine runP (tb := tbl hy162) ((tabkOk (nuL (nu162 n pos chr)) (nuL_one (l := nu162 n pos chr) rfl)).hyps ?_) rfl hfi hb (run162 ) (args := [.int .u8 n, .int .u8 pos, .int .u8 chr]) (by simp only [RelL, Rel]; exact ⟨_, _, rfl, rfl, ⟨_, _, rfl, rfl, ⟨_, _, rfl, rfl, rfl⟩⟩⟩) w hl
  obtain ⟨b0, b1, b2, b3, b4, b5⟩ := bb
  unfold hy162
  refine hcons (kRem (isX rfl) (isZ (m := 11) rfl) (denZ (m := 10) rfl) (by omega) (by omega) (by omega)) ?_
  refine hcons (kConvF (isX rfl) tu3 (denX rfl) (fI64 (by omega) (by omega))) ?_
  refine hcons (kRem (isX rfl) (isZ (m := 10) rfl) (denZ (m := 8) rfl) (by omega) (by omega) (by omega)) ?_
  refine hcons (kBytesB (bs := [u8 46, u8 112, u8 112, u8 112, u8 112, u8 112, u8 112, u8 112, u8 112, u8 (chr), u8 112]) (bC (by omega) (bC (by omega) (bC (by omega) (bC (by omega) (bC (by omega) (bC (by omega) (bC (by omega) (bC (by omega) (bC (by omega) (.cons (isB8 (isX rfl) (by omega) (by omega)) (bC (by omega) .nil))))))))))) (denX rfl)) ?_
  refine hcons (kLenE (isX rfl) (denZ (m := 11) rfl) rfl) ?_
  refine hcons (kMid (P := 0) (Q := 1) (isX rfl) (.inl ⟨rfl, rfl⟩) (.inr ⟨_, _, rfl, (isZ (m := 1) rfl)⟩) (by omega) (by omega) (by simp) (denX rfl)) ?_
  refine hcons (kEqS (isX rfl) (isSx (l := [u8 46]) 1 46 rfl) (decide_eq_true rfl)) ?_
  refine hcons (kMid (P := 1) (Q := 11) (isX rfl) (.inr ⟨_, _, rfl, (isZ (m := 1) rfl)⟩) (.inl ⟨rfl, rfl⟩) (by omega) (by omega) (by simp) (denX rfl)) ?_
  refine hcons (kLenE (isX rfl) (denZ (m := 10) rfl) rfl) ?_
  refine hcons (kIdxC (isX rfl) (by simp) rfl (by omega)) ?_
  refine hcons (kIdxC (isX rfl) (by simp) rfl (by omega)) ?_
  refine hcons (kIdxC (isX rfl) (by simp) rfl (by omega)) ?_
  refine hcons (kIdxC (isX rfl) (by simp) rfl (by omega)) ?_
  refine hcons (kIdxC (isX rfl) (by simp) rfl (by omega)) ?_
  refine hcons (kIdxC (isX rfl) (by simp) rfl (by omega)) ?_
  refine hcons (kIdxC (isX rfl) (by simp) rfl (by omega)) ?_
  refine hcons (kIdxC (isX rfl) (by simp) rfl (by omega)) ?_
  refine hcons (kIdxE (i := 8) (isX rfl) (isZ (m := 8) rfl) (denX rfl) rfl (by simp) (bt_at rfl (by omega) (by omega))) ?_
  refine hcons (kGe (isX rfl) (isZ (m := 97) rfl) (decide_eq_true (by omega))) ?_
  refine hcons (kLe (isX rfl) (isZ (m := 122) rfl) (decide_eq_false (by omega))) ?_
  exact hnil
def hy163 : List (HK × AV) := [(.bin .rem (.x 0) (u1 11), u1 10),
  (.conv 3 (.x 1), .x 3),
  (.bin .rem (.x 3) (i6 10), i6 9),
  (.bytes [u1 46, u1 112, u1 112, u1 112, u1 112, u1 112, u1 112, u1 112, u1 112, u1 112, .x 2], .x 4),
  (.len (.x 4), i6 11),
  (.sub (.x 4) none (some (i6 1)), .x 5),
  (.bin .eql (.x 5) (.s 1 46), .b true),
  (.sub (.x 4) (some (i6 1)) none, .x 6),
  (.len (.x 6), i6 10),
  (.idx (.x 6) (i6 0), u1 112),
  (.idx (.x 6) (i6 1), u1 112),
  (.idx (.x 6) (i6 2), u1 112),
  (.idx (.x 6) (i6 3), u1 112),
  (.idx (.x 6) (i6 4), u1 112),
  (.idx (.x 6) (i6 5), u1 112),
  (.idx (.x 6) (i6 6), u1 112),
  (.idx (.x 6) (i6 7), u1 112),
  (.idx (.x 6) (i6 8), u1 112),
  (.idx (.x 6) (i6 9), .x 7),
  (.bin .geq (.x 7) (u1 97), .b false)]
theorem run163 : okB (call (tbl hy163) 9000 7 [.x 0, .x 1, .x 2] ⟨H0 , 7, 0, 0⟩) = true := by kernel_rfl
def nu163 (n pos chr : Int) : List Value := [.int .u8 (n),
  .int .u8 (pos),
  .int .u8 (chr),
  .int .i64 (pos),
  St' ([u8 46, u8 112, u8 112, u8 112, u8 112, u8 112, u8 112, u8 112, u8 112, u8 112, u8 (chr)]),
  St' ([u8 46]),
  St' ([u8 112, u8 112, u8 112, u8 112, u8 112, u8 112, u8 112, u8 112, u8 112, u8 (chr)]),
  .int .u8 (chr)]
theorem path163 (n pos chr : Int) (bb : BB n pos chr) (h0 : n % 11 = 10) (h1 : pos % 10 = 9) (h2 : ¬ (97 ≤ chr)) (w : World) (hl : laidE w) : Cw #[.int .u8 n, .int .u8 pos, .int .u8 chr] w := by
  obtain ⟨fi, hfi, hb⟩ := fiE
  refine runP (tb := tbl hy163) ((tabkOk (nuL (nu163 n pos chr)) (nuL_one (l := nu163 n pos chr) rfl)).hyps ?_) rfl hfi hb (run163 ) (args := [.int .u8 n, .int .u8 pos, .int .u8 chr]) (by simp only [RelL, Rel]; exact ⟨_, _, rfl, rfl, ⟨_, _, rfl, rfl, ⟨_, _, rfl, rfl, rfl⟩⟩⟩) w hl
  obtain ⟨b0, b1, b2, b3, b4, b5⟩ := bb
  unfold hy163
  refine hcons (kRem (isX rfl) (isZ (m := 11) rfl) (denZ (m := 10) rfl) (by omega) (by omega) (by omega)) ?_
  refine hcons (kConvF (isX rfl) tu3 (denX rfl) (fI64 (by omega) (by omega))) ?_
  refine hcons (kRem (isX rfl) (isZ (m := 10) rfl) (denZ (m := 9) rfl) (by omega) (by omega) (by omega)) ?_
  refine hcons (kBytesB (bs := [u8 46, u8 112, u8 112, u8 112, u8 112, u8 112, u8 112, u8 112, u8 112, u8 112, u8 (chr)]) (bC (by omega) (bC (by omega) (bC (by omega) (bC (by omega) (bC (by omega) (bC (by omega) (bC (by omega) (bC (by omega) (bC (by omega) (bC (by omega) (.cons (isB8 (isX rfl) (by omega) (by omega)) .nil))))))))))) (denX rfl)) ?_
  refine hcons (kLenE (isX rfl) (denZ (m := 11) rfl) rfl) ?_
  refine hcons (kMid (P := 0) (Q := 1) (isX rfl) (.inl ⟨rfl, rfl⟩) (.inr ⟨_, _, rfl, (isZ (m := 1) rfl)⟩) (by omega) (by omega) (by simp) (denX rfl)) ?_
  refine hcons (kEqS (isX rfl) (isSx (l := [u8 46]) 1 46 rfl) (decide_eq_true rfl)) ?_
  refine hcons (kMid (P := 1) (Q := 11) (isX rfl) (.inr ⟨_, _, rfl, (isZ (m := 1) rfl)⟩) (.inl ⟨rfl, rfl⟩) (by omega) (by omega) (by simp) (denX rfl)) ?_
  refine hcons (kLenE (isX rfl) (denZ (m := 10) rfl) rfl) ?_
  refine hcons (kIdxC (isX rfl) (by simp) rfl (by omega)) ?_
  refine hcons (kIdxC (isX rfl) (by simp) rfl (by omega)) ?_
  refine hcons (kIdxC (isX rfl) (by simp) rfl (by omega)) ?_
  refine hcons (kIdxC (isX rfl) (by simp) rfl (by omega)) ?_
  refine hcons (kIdxC (isX rfl) (by simp) rfl (by omega)) ?_
  refine hcons (kIdxC (isX rfl) (by simp) rfl (by omega)) ?_
  refine hcons (kIdxC (isX rfl) (by simp) rfl (by omega)) ?_
  refine hcons (kIdxC (isX rfl) (by simp) rfl (by omega)) ?_
  refine hcons (kIdxC (isX rfl) (by simp) rfl (by omega)) ?_
  refine hcons (kIdxE (i := 9) (isX rfl) (isZ (m := 9) rfl) (denX rfl) rfl (by simp) (bt_at rfl (by omega) (by omega))) ?_
  refine hcons (kGe (isX rfl) (isZ (m := 97) rfl) (decide_eq_false (by omega))) ?_
  exact hnil
def hy164 : List (HK × AV) := [(.bin .rem (.x 0) (u1 11), u1 10),
  (.conv 3 (.x 1), .x 3),
  (.bin .rem (.x 3) (i6 10), i6 9),
  (.bytes [u1 46, u1 112, u1 112, u1 112, u1 112, u1 112, u1 112, u1 112, u1 112, u1 112, .x 2], .x 4),
  (.len (.x 4), i6 11),
  (.sub (.x 4) none (some (i6 1)), .x 5),
  (.bin .eql (.x 5) (.s 1 46), .b true),
  (.sub (.x 4) (some (i6 1)) none, .x 6),
  (.len (.x 6), i6 10),
  (.idx (.x 6) (i6 0), u1 112),
  (.idx (.x 6) (i6 1), u1 112),
  (.idx (.x 6) (i6 2), u1 112),
  (.idx (.x 6) (i6 3), u1 112),
  (.idx (.x 6) (i6 4), u1 112),
  (.idx (.x 6) (i6 5), u1 112),
  (.idx (.x 6) (i6 6), u1 112),
  (.idx (.x 6) (i6 7), u1 112),
  (.idx (.x 6) (i6 8), u1 112),
  (.idx (.x 6) (i6 9), .x 7),
  (.bin .geq (.x 7) (u1 97), .b true),
  (.bin .leq (.x 7) (u1 122), .b true),
  (.bin .neq (.x 6) (.s 0 0), .b true)]
theorem run164 : okB (call (tbl hy164) 9000 7 [.x 0, .x 1, .x 2] ⟨H0 , 7, 0, 0⟩) = true := by kernel_rfl
def nu164 (n pos chr : Int) : List Value := [.int .u8 (n),
  .int .u8 (pos),
  .int .u8 (chr),
  .int .i64 (pos),
  St' ([u8 46, u8 112, u8 112, u8 112, u8 112, u8 112, u8 112, u8 112, u8 112, u8 112, u8 (chr)]),
  St' ([u8 46]),
  St' ([u8 112, u8 112, u8 112, u8 112, u8 112, u8 112, u8 112, u8 112, u8 112, u8 (chr)]),
  .int .u8 (chr)]
theorem path164 (n pos chr : Int) (bb : BB n pos chr) (h0 : n % 11 = 10) (h1 : pos % 10 = 9) (h2 : 97 ≤ chr) (h3 : chr ≤ 122) (w : World) (hl : laidE w) : Cw #[.int .u8 n, .int .u8 pos, .int .u8 chr] w := by
  obtain ⟨fi, hfi, hb⟩ := fiE
  refine runP (tb := tbl hy164) ((tabkOk (nuL (nu164 n pos chr)) (nuL_one (l := nu164 n pos chr) rfl)).hyps ?_) rfl hfi hb (run164 ) (args := [.int .u8 n, .int .u8 pos, .int .u8 chr]) (by simp only [RelL, Rel]; exact ⟨_, _, rfl, rfl, ⟨_, _, rfl, rfl, ⟨_, _, rfl, rfl, rfl⟩⟩⟩) w hl
  obtain ⟨b0, b1, b2, b3, b4, b5⟩ := bb
  unfold hy164
  refine hcons (kRem (isX rfl) (isZ (m := 11) rfl) (denZ (m := 10) rfl) (by omega) (by omega) (by omega)) ?_
  refine hcons (kConvF (isX rfl) tu3 (denX rfl) (fI64 (by omega) (by omega))) ?_
  refine hcons (kRem (isX rfl) (isZ (m := 10) rfl) (denZ (m := 9) rfl) (by omega) (by omega) (by omega)) ?_
  refine hcons (kBytesB (bs := [u8 46, u8 112, u8 112, u8 112, u8 112, u8 112, u8 112, u8 112, u8 112, u8 112, u8 (chr)]) (bC (by omega) (bC (by omega) (bC (by omega) (bC (by omega) (bC (by omega) (bC (by omega) (bC (by omega) (bC (by omega) (bC (by omega) (bC (by omega) (.cons (isB8 (isX rfl) (by omega) (by omega)) .nil))))))))))) (denX rfl)) ?_
  refine hcons (kLenE (isX rfl) (denZ (m := 11) rfl) rfl) ?_
  refine hcons (kMid (P := 0) (Q := 1) (isX rfl) (.inl ⟨rfl, rfl⟩) (.inr ⟨_, _, rfl, (isZ (m := 1) rfl)⟩) (by omega) (by omega) (by simp) (denX rfl)) ?_
  refine hcons (kEqS (isX rfl) (isSx (l := [u8 46]) 1 46 rfl) (decide_eq_true rfl)) ?_
  refine hcons (kMid (P := 1) (Q := 11) (isX rfl) (.inr ⟨_, _, rfl, (isZ (m := 1) rfl)⟩) (.inl ⟨rfl, rfl⟩) (by omega) (by omega) (by simp) (denX rfl)) ?_
  refine hcons (kLenE (isX rfl) (denZ (m := 10) rfl) rfl) ?_
  refine hcons (kIdxC (isX rfl) (by simp) rfl (by omega)) ?_
  refine hcons (kIdxC (isX rfl) (by simp) rfl (by omega)) ?_
  refine hcons (kIdxC (isX rfl) (by simp) rfl (by omega)) ?_
  refine hcons (kIdxC (isX rfl) (by simp) rfl (by omega)) ?_
  refine hcons (kIdxC (isX rfl) (by simp) rfl (by omega)) ?_
  refine hcons (kIdxC (isX rfl) (by simp) rfl (by omega)) ?_
  refine hcons (kIdxC (isX rfl) (by simp) rfl (by omega)) ?_
  refine hcons (kIdxC (isX rfl) (by simp) rfl (by omega)) ?_
  refine hcons (kIdxC (isX rfl) (by simp) rfl (by omega)) ?_
  refine hcons (kIdxE (i := 9) (isX rfl) (isZ (m := 9) rfl) (denX rfl) rfl (by simp) (bt_at rfl (by omega) (by omega))) ?_
  refine hcons (kGe (isX rfl) (isZ (m := 97) rfl) (decide_eq_true (by omega))) ?_
  refine hcons (kLe (isX rfl) (isZ (m := 122) rfl) (decide_eq_true (by omega))) ?_
  refine hcons (kNeS (isX rfl) (isSx (l := ([] : List UInt8)) 0 0 rfl) (bnT (by first | exact nilT (by first | omega | (simp only [List.length_append, List.length_cons, List.length_nil, List.length_take, List.length_drop, List.length_replicate, Int.natCast_add] at * <;> omega)) | exact nilF (by first | omega | (simp only [List.length_append, List.length_cons, List.length_nil, List.length_take, List.length_drop, List.length_replicate, Int.natCast_add] at * <;> omega)) | exact nilT' (by first | omega | (simp only [List.length_append, List.length_cons, List.length_nil, List.length_take, List.length_drop, List.length_replicate, Int.natCast_add] at * <;> omega)) | exact nilF' (by first | omega | (simp only [List.length_append, List.length_cons, List.length_nil, List.length_take, List.length_drop, List.length_replicate, Int.natCast_add] at * <;> omega))))) ?_
  exact hnil
def hy165 : List (HK × AV) := [(.bin .rem (.x 0) (u1 11), u1 10),
  (.conv 3 (.x 1), .x 3),
  (.bin .rem (.x 3) (i6 10), i6 9),
  (.bytes [u1 46, u1 112, u1 112, u1 112, u1 112, u1 112, u1 112, u1 112, u1 112, u1 112, .x 2], .x 4),
  (.len (.x 4), i6 11),
  (.sub (.x 4) none (some (i6 1)), .x 5),
  (.bin .eql (.x 5) (.s 1 46), .b true),
  (.sub (.x 4) (some (i6 1)) none, .x 6),
  (.len (.x 6), i6 10),
  (.idx (.x 6) (i6 0), u1 112),
  (.idx (.x 6) (i6 1), u1 112),
  (.idx (.x 6) (i6 2), u1 112),
  (.idx (.x 6) (i6 3), u1 112),
  (.idx (.x 6) (i6 4), u1 112),
  (.idx (.x 6) (i6 5), u1 112),
  (.idx (.x 6) (i6 6), u1 112),
  (.idx (.x 6) (i6 7), u1 112),
  (.idx (.x 6) (i6 8), u1 112),
  (.idx (.x 6) (i6 9), .x 7),
  (.bin .geq (.x 7) (u1 97), .b true),
  (.bin .leq (.x 7) (u1 122), .b false)]
theorem run165 : okB (call (tbl hy165) 9000 7 [.x 0, .x 1, .x 2] ⟨H0 , 7, 0, 0⟩) = true := by kernel_rfl
def nu165 (n pos chr : Int) : List Value := [.int .u8 (n),
  .int .u8 (pos),
  .int .u8 (chr),
  .int .i64 (pos),
  St' ([u8 46, u8 112, u8 112, u8 112, u8 112, u8 112, u8 112, u8 112, u8 112, u8 112, u8 (chr)]),
  St' ([u8 46]),
  St' ([u8 112, u8 112, u8 112, u8 112, u8 112, u8 112, u8 112, u8 112, u8 112, u8 (chr)]),
  .int .u8 (chr)]
theorem path165 (n pos chr : Int) (bb : BB n pos chr) (h0 : n % 11 = 10) (h1 : pos % 10 = 9) (h2 : 97 ≤ chr) (h3 : ¬ (chr ≤ 122)) (w : World) (hl : laidE w) : Cw #[.int .u8 n, .int .u8 pos, .int .u8 chr] w := by
  obtain ⟨fi, hfi, hb⟩ := fiE
  refine runP (tb := tbl hy165) ((tabkOk (nuL (nu165 n pos chr)) (nuL_one (l := nu165 n pos chr) rfl)).hyps ?_) rfl hfi hb (run165 ) (args := [.int .u8 n, .int .u8 pos, .int .u8 chr]) (by simp only [RelL, Rel]; exact ⟨_, _, rfl, rfl, ⟨_, _, rfl, rfl, ⟨_, _, rfl, rfl, rfl⟩⟩⟩) w hl
  obtain ⟨b0, b1, b2, b3, b4, b5⟩ := bb
  unfold hy165
  refine hcons (kRem (isX rfl) (isZ (m := 11) rfl) (denZ (m := 10) rfl) (by omega) (by omega) (by omega)) ?_
  refine hcons (kConvF (isX rfl) tu3 (denX rfl) (fI64 (by omega) (by omega))) ?_
  refine hcons (kRem (isX rfl) (isZ (m := 10) rfl) (denZ (m := 9) rfl) (by omega) (by omega) (by omega)) ?_
  refine hcons (kBytesB (bs := [u8 46, u8 112, u8 112, u8 112, u8 112, u8 112, u8 112, u8 112, u8 112, u8 112, u8 (chr)]) (bC (by omega) (bC (by omega) (bC (by omega) (bC (by omega) (bC (by omega) (bC (by omega) (bC (by omega) (bC (by omega) (bC (by omega) (bC (by omega) (.cons (isB8 (isX rfl) (by omega) (by omega)) .nil))))))))))) (denX rfl)) ?_
  refine hcons (kLenE (isX rfl) (denZ (m := 11) rfl) rfl) ?_
  refine hcons (kMid (P := 0) (Q := 1) (isX rfl) (.inl ⟨rfl, rfl⟩) (.inr ⟨_, _, rfl, (isZ (m := 1) rfl)⟩) (by omega) (by omega) (by simp) (denX rfl)) ?_
  refine hcons (kEqS (isX rfl) (isSx (l := [u8 46]) 1 46 rfl) (decide_eq_true rfl)) ?_
  refine hcons (kMid (P := 1) (Q := 11) (isX rfl) (.inr ⟨_, _, rfl, (isZ (m := 1) rfl)⟩) (.inl ⟨rfl, rfl⟩) (by omega) (by omega) (by simp) (denX rfl)) ?_
  refine hcons (kLenE (isX rfl) (denZ (m := 10) rfl) rfl) ?_
  refine hcons (kIdxC (isX rfl) (by simp) rfl (by omega)) ?_
  refine hcons (kIdxC (isX rfl) (by simp) rfl (by omega)) ?_
  refine hcons (kIdxC (isX rfl) (by simp) rfl (by omega)) ?_
  refine hcons (kIdxC (isX rfl) (by simp) rfl (by omega)) ?_
  refine hcons (kIdxC (isX rfl) (by simp) rfl (by omega)) ?_
  refine hcons (kIdxC (isX rfl) (by simp) rfl (by omega)) ?_
  refine hcons (kIdxC (isX rfl) (by simp) rfl (by omega)) ?_
  refine hcons (kIdxC (isX rfl) (by simp) rfl (by omega)) ?_
  refine hcons (kIdxC (isX rfl) (by simp) rfl (by omega)) ?_
  refine hcons (kIdxE (i := 9) (isX rfl) (isZ (m := 9) rfl) (denX rfl) rfl (by simp) (bt_at rfl (by omega) (by omega))) ?_
  refine hcons (kGe (isX rfl) (isZ (m := 97) rfl) (decide_eq_true (by omega))) ?_
  refine hcons (kLe (isX rfl) (isZ (m := 122) rfl) (decide_eq_false (by omega))) ?_
  exact hnil
end Go.Proofs.YticlhkekkfelpaaDoor.ruleExts
