/- A part of the proof: an interpreter of the model's own code on partly known states, and that what it answers is what the program answers. No condition of its own. -/
import Derived.Test.YticlhkekkfelpaaDoorB5RuleExtsO
set_option maxRecDepth 100000
set_option linter.unusedVariables false
set_option linter.unusedSimpArgs false
namespace Go.Proofs.YticlhkekkfelpaaDoor.ruleExts
open Go Go.AX Go.Proofs Go.Proofs.YticlhkekkfelpaaDoor
def hy24 : List (HK × AV) := [(.bin .rem (.x 0) (u1 11), u1 4),
  (.conv 3 (.x 1), .x 3),
  (.bin .rem (.x 3) (i6 4), i6 1),
  (.bin .geq (.x 2) (u1 97), .b true),
  (.bin .leq (.x 2) (u1 122), .b false),
  (.bytes [u1 46, u1 112, .x 2, u1 112, u1 112], .x 4),
  (.len (.x 4), i6 5),
  (.sub (.x 4) none (some (i6 1)), .x 5),
  (.bin .eql (.x 5) (.s 1 46), .b true),
  (.sub (.x 4) (some (i6 1)) none, .x 6),
  (.len (.x 6), i6 4),
  (.idx (.x 6) (i6 0), u1 112),
  (.idx (.x 6) (i6 1), .x 7),
  (.bin .geq (.x 7) (u1 97), .b true),
  (.bin .leq (.x 7) (u1 122), .b false)]
theorem run24 : okB (call (tbl hy24) 9000 7 [.x 0, .x 1, .x 2] ⟨H0 , 7, 0, 0⟩) = true := by kernel_rfl
def nu24 (n pos chr : Int) : List Value := [.int .u8 (n),
  .int .u8 (pos),
  .int .u8 (chr),
  .int .i64 (pos),
  St' ([u8 46, u8 112, u8 (chr), u8 112, u8 112]),
  St' ([u8 46]),
  St' ([u8 112, u8 (chr), u8 112, u8 112]),
  .int .u8 (chr)]
theorem path24 (n pos chr : Int) (bb : BB n pos chr) (h0 : n % 11 = 4) (h1 : pos % 4 = 1) (h2 : 97 ≤ chr) (h3 : ¬ (chr ≤ 122)) (w : World) (hl : laidE w) : Cw #[.int .u8 n, .int .u8 pos, .int .u8 chr] w := by
  obtain ⟨fi, hfi, hb⟩ := fiE
  refine runP (tb := tbl hy24) ((tabkOk (nuL (nu24 n pos chr)) (nuL_one (l := nu24 n pos chr) rfl)).hyps ?_) rfl hfi hb (run24 ) (args := [.int .u8 n, .int .u8 pos, .int .u8 chr]) (by simp only [RelL, Rel]; exact ⟨_, _, rfl, rfl, ⟨_, _, rfl, rfl, ⟨_, _, rfl, rfl, rfl⟩⟩⟩) w hl
  obtain ⟨b0, b1, b2, b3, b4, b5⟩ := bb
  unfold hy24
  refine hcons (kRem (isX rfl) (isZ (m := 11) rfl) (denZ (m := 4) rfl) (by omega) (by omega) (by omega)) ?_
  refine hcons (kConvF (isX rfl) tu3 (denX rfl) (fI64 (by omega) (by omega))) ?_
  refine hcons (kRem (isX rfl) (isZ (m := 4) rfl) (denZ (m := 1) rfl) (by omega) (by omega) (by omega)) ?_
  refine hcons (kGe (isX rfl) (isZ (m := 97) rfl) (decide_eq_true (by omega))) ?_
  refine hcons (kLe (isX rfl) (isZ (m := 122) rfl) (decide_eq_false (by omega))) ?_
  refine hcons (kBytesB (bs := [u8 46, u8 112, u8 (chr), u8 112, u8 112]) (bC (by omega) (bC (by omega) (.cons (isB8 (isX rfl) (by omega) (by omega)) (bC (by omega) (bC (by omega) .nil))))) (denX rfl)) ?_
  refine hcons (kLenE (isX rfl) (denZ (m := 5) rfl) rfl) ?_
  refine hcons (kMid (P := 0) (Q := 1) (isX rfl) (.inl ⟨rfl, rfl⟩) (.inr ⟨_, _, rfl, (isZ (m := 1) rfl)⟩) (by omega) (by omega) (by simp) (denX rfl)) ?_
  refine hcons (kEqS (isX rfl) (isSx (l := [u8 46]) 1 46 rfl) (decide_eq_true rfl)) ?_
  refine hcons (kMid (P := 1) (Q := 5) (isX rfl) (.inr ⟨_, _, rfl, (isZ (m := 1) rfl)⟩) (.inl ⟨rfl, rfl⟩) (by omega) (by omega) (by simp) (denX rfl)) ?_
  refine hcons (kLenE (isX rfl) (denZ (m := 4) rfl) rfl) ?_
  refine hcons (kIdxC (isX rfl) (by simp) rfl (by omega)) ?_
  refine hcons (kIdxE (i := 1) (isX rfl) (isZ (m := 1) rfl) (denX rfl) rfl (by simp) (bt_at rfl (by omega) (by omega))) ?_
  refine hcons (kGe (isX rfl) (isZ (m := 97) rfl) (decide_eq_true (by omega))) ?_
  refine hcons (kLe (isX rfl) (isZ (m := 122) rfl) (decide_eq_false (by omega))) ?_
  exact hnil
def hy25 : List (HK × AV) := [(.bin .rem (.x 0) (u1 11), u1 4),
  (.conv 3 (.x 1), .x 3),
  (.bin .rem (.x 3) (i6 4), i6 2),
  (.bin .geq (.x 2) (u1 97), .b false),
  (.bytes [u1 46, u1 112, u1 112, .x 2, u1 112], .x 4),
  (.len (.x 4), i6 5),
  (.sub (.x 4) none (some (i6 1)), .x 5),
  (.bin .eql (.x 5) (.s 1 46), .b true),
  (.sub (.x 4) (some (i6 1)) none, .x 6),
  (.len (.x 6), i6 4),
  (.idx (.x 6) (i6 0), u1 112),
  (.idx (.x 6) (i6 1), u1 112),
  (.idx (.x 6) (i6 2), .x 7),
  (.bin .geq (.x 7) (u1 97), .b false)]
theorem run25 : okB (call (tbl hy25) 9000 7 [.x 0, .x 1, .x 2] ⟨H0 , 7, 0, 0⟩) = true := by kernel_rfl
def nu25 (n pos chr : Int) : List Value := [.int .u8 (n),
  .int .u8 (pos),
  .int .u8 (chr),
  .int .i64 (pos),
  St' ([u8 46, u8 112, u8 112, u8 (chr), u8 112]),
  St' ([u8 46]),
  St' ([u8 112, u8 112, u8 (chr), u8 112]),
  .int .u8 (chr)]
theorem path25 (n pos chr : Int) (bb : BB n pos chr) (h0 : n % 11 = 4) (h1 : pos % 4 = 2) (h2 : ¬ (97 ≤ chr)) (w : World) (hl : laidE w) : Cw #[.int .u8 n, .int .u8 pos, .int .u8 chr] w := by
  obtain ⟨fi, hfi, hb⟩ := fiE
  refine runP (tb := tbl hy25) ((tabkOk (nuL (nu25 n pos chr)) (nuL_one (l := nu25 n pos chr) rfl)).hyps ?_) rfl hfi hb (run25 ) (args := [.int .u8 n, .int .u8 pos, .int .u8 chr]) (by simp only [RelL, Rel]; exact ⟨_, _, rfl, rfl, ⟨_, _, rfl, rfl, ⟨_, _, rfl, rfl, rfl⟩⟩⟩) w hl
  obtain ⟨b0, b1, b2, b3, b4, b5⟩ := bb
  unfold hy25
  refine hcons (kRem (isX rfl) (isZ (m := 11) rfl) (denZ (m := 4) rfl) (by omega) (by omega) (by omega)) ?_
  refine hcons (kConvF (isX rfl) tu3 (denX rfl) (fI64 (by omega) (by omega))) ?_
  refine hcons (kRem (isX rfl) (isZ (m := 4) rfl) (denZ (m := 2) rfl) (by omega) (by omega) (by omega)) ?_
  refine hcons (kGe (isX rfl) (isZ (m := 97) rfl) (decide_eq_false (by omega))) ?_
  refine hcons (kBytesB (bs := [u8 46, u8 112, u8 112, u8 (chr), u8 112]) (bC (by omega) (bC (by omega) (bC (by omega) (.cons (isB8 (isX rfl) (by omega) (by omega)) (bC (by omega) .nil))))) (denX rfl)) ?_
  refine hcons (kLenE (isX rfl) (denZ (m := 5) rfl) rfl) ?_
  refine hcons (kMid (P := 0) (Q := 1) (isX rfl) (.inl ⟨rfl, rfl⟩) (.inr ⟨_, _, rfl, (isZ (m := 1) rfl)⟩) (by omega) (by omega) (by simp) (denX rfl)) ?_
  refine hcons (kEqS (isX rfl) (isSx (l := [u8 46]) 1 46 rfl) (decide_eq_true rfl)) ?_
  refine hcons (kMid (P := 1) (Q := 5) (isX rfl) (.inr ⟨_, _, rfl, (isZ (m := 1) rfl)⟩) (.inl ⟨rfl, rfl⟩) (by omega) (by omega) (by simp) (denX rfl)) ?_
  refine hcons (kLenE (isX rfl) (denZ (m := 4) rfl) rfl) ?_
  refine hcons (kIdxC (isX rfl) (by simp) rfl (by omega)) ?_
  refine hcons (kIdxC (isX rfl) (by simp) rfl (by omega)) ?_
  refine hcons (kIdxE (i := 2) (isX rfl) (isZ (m := 2) rfl) (denX rfl) rfl (by simp) (bt_at rfl (by omega) (by omega))) ?_
  refine hcons (kGe (isX rfl) (isZ (m := 97) rfl) (decide_eq_false (by omega))) ?_
  exact hnil
def hy26 : List (HK × AV) := [(.bin .rem (.x 0) (u1 11), u1 4),
  (.conv 3 (.x 1), .x 3),
  (.bin .rem (.x 3) (i6 4), i6 2),
  (.bin .geq (.x 2) (u1 97), .b true),
  (.bin .leq (.x 2) (u1 122), .b true),
  (.bytes [u1 46, u1 112, u1 112, .x 2, u1 112], .x 4),
  (.len (.x 4), i6 5),
  (.sub (.x 4) none (some (i6 1)), .x 5),
  (.bin .eql (.x 5) (.s 1 46), .b true),
  (.sub (.x 4) (some (i6 1)) none, .x 6),
  (.len (.x 6), i6 4),
  (.idx (.x 6) (i6 0), u1 112),
  (.idx (.x 6) (i6 1), u1 112),
  (.idx (.x 6) (i6 2), .x 7),
  (.bin .geq (.x 7) (u1 97), .b true),
  (.bin .leq (.x 7) (u1 122), .b true),
  (.idx (.x 6) (i6 3), u1 112),
  (.bin .neq (.x 6) (.s 0 0), .b true)]
theorem run26 : okB (call (tbl hy26) 9000 7 [.x 0, .x 1, .x 2] ⟨H0 , 7, 0, 0⟩) = true := by kernel_rfl
def nu26 (n pos chr : Int) : List Value := [.int .u8 (n),
  .int .u8 (pos),
  .int .u8 (chr),
  .int .i64 (pos),
  St' ([u8 46, u8 112, u8 112, u8 (chr), u8 112]),
  St' ([u8 46]),
  St' ([u8 112, u8 112, u8 (chr), u8 112]),
  .int .u8 (chr)]
theorem path26 (n pos chr : Int) (bb : BB n pos chr) (h0 : n % 11 = 4) (h1 : pos % 4 = 2) (h2 : 97 ≤ chr) (h3 : chr ≤ 122) (w : World) (hl : laidE w) : Cw #[.int .u8 n, .int .u8 pos, .int .u8 chr] w := by
  obtain ⟨fi, hfi, hb⟩ := fiE
  refine runP (tb := tbl hy26) ((tabkOk (nuL (nu26 n pos chr)) (nuL_one (l := nu26 n pos chr) rfl)).hyps ?_) rfl hfi hb (run26 ) (args := [.int .u8 n, .int .u8 pos, .int .u8 chr]) (by simp only [RelL, Rel]; exact ⟨_, _, rfl, rfl, ⟨_, _, rfl, rfl, ⟨_, _, rfl, rfl, rfl⟩⟩⟩) w hl
  obtain ⟨b0, b1, b2, b3, b4, b5⟩ := bb
  unfold hy26
  refine hcons (kRem (isX rfl) (isZ (m := 11) rfl) (denZ (m := 4) rfl) (by omega) (by omega) (by omega)) ?_
  refine hcons (kConvF (isX rfl) tu3 (denX rfl) (fI64 (by omega) (by omega))) ?_
  refine hcons (kRem (isX rfl) (isZ (m := 4) rfl) (denZ (m := 2) rfl) (by omega) (by omega) (by omega)) ?_
  refine hcons (kGe (isX rfl) (isZ (m := 97) rfl) (decide_eq_true (by omega))) ?_
  refine hcons (kLe (isX rfl) (isZ (m := 122) rfl) (decide_eq_true (by omega))) ?_
  refine hcons (kBytesB (bs := [u8 46, u8 112, u8 112, u8 (chr), u8 112]) (bC (by omega) (bC (by omega) (bC (by omega) (.cons (isB8 (isX rfl) (by omega) (by omega)) (bC (by omega) .nil))))) (denX rfl)) ?_
  refine hcons (kLenE (isX rfl) (denZ (m := 5) rfl) rfl) ?_
  refine hcons (kMid (P := 0) (Q := 1) (isX rfl) (.inl ⟨rfl, rfl⟩) (.inr ⟨_, _, rfl, (isZ (m := 1) rfl)⟩) (by omega) (by omega) (by simp) (denX rfl)) ?_
  refine hcons (kEqS (isX rfl) (isSx (l := [u8 46]) 1 46 rfl) (decide_eq_true rfl)) ?_
  refine hcons (kMid (P := 1) (Q := 5) (isX rfl) (.inr ⟨_, _, rfl, (isZ (m := 1) rfl)⟩) (.inl ⟨rfl, rfl⟩) (by omega) (by omega) (by simp) (denX rfl)) ?_
  refine hcons (kLenE (isX rfl) (denZ (m := 4) rfl) rfl) ?_
  refine hcons (kIdxC (isX rfl) (by simp) rfl (by omega)) ?_
  refine hcons (kIdxC (isX rfl) (by simp) rfl (by omega)) ?_
  refine hcons (kIdxE (i := 2) (isX rfl) (isZ (m := 2) rfl) (denX rfl) rfl (by simp) (bt_at rfl (by omega) (by omega))) ?_
  refine hcons (kGe (isX rfl) (isZ (m := 97) rfl) (decide_eq_true (by omega))) ?_
  refine hcons (kLe (isX rfl) (isZ (m := 122) rfl) (decide_eq_true (by omega))) ?_
  refine hcons (kIdxC (isX rfl) (by simp) rfl (by omega)) ?_
  refine hcons (kNeS (isX rfl) (isSx (l := ([] : List UInt8)) 0 0 rfl) (bnT (by first | exact nilT (by first | omega | (simp only [List.length_append, List.length_cons, List.length_nil, List.length_take, List.length_drop, List.length_replicate, Int.natCast_add] at * <;> omega)) | exact nilF (by first | omega | (simp only [List.length_append, List.length_cons, List.length_nil, List.length_take, List.length_drop, List.length_replicate, Int.natCast_add] at * <;> omega)) | exact nilT' (by first | omega | (simp only [List.length_append, List.length_cons, List.length_nil, List.length_take, List.length_drop, List.length_replicate, Int.natCast_add] at * <;> omega)) | exact nilF' (by first | omega | (simp only [List.length_append, List.length_cons, List.length_nil, List.length_take, List.length_drop, List.length_replicate, Int.natCast_add] at * <;> omega))))) ?_
  exact hnil
def hy27 : List (HK × AV) := [(.bin .rem (.x 0) (u1 11), u1 4),
  (.conv 3 (.x 1), .x 3),
  (.bin .rem (.x 3) (i6 4), i6 2),
  (.bin .geq (.x 2) (u1 97), .b true),
  (.bin .leq (.x 2) (u1 122), .b false),
  (.bytes [u1 46, u1 112, u1 112, .x 2, u1 112], .x 4),
  (.len (.x 4), i6 5),
  (.sub (.x 4) none (some (i6 1)), .x 5),
  (.bin .eql (.x 5) (.s 1 46), .b true),
  (.sub (.x 4) (some (i6 1)) none, .x 6),
  (.len (.x 6), i6 4),
  (.idx (.x 6) (i6 0), u1 112),
  (.idx (.x 6) (i6 1), u1 112),
  (.idx (.x 6) (i6 2), .x 7),
  (.bin .geq (.x 7) (u1 97), .b true),
  (.bin .leq (.x 7) (u1 122), .b false)]
theorem run27 : okB (call (tbl hy27) 9000 7 [.x 0, .x 1, .x 2] ⟨H0 , 7, 0, 0⟩) = true := by kernel_rfl
def nu27 (n pos chr : Int) : List Value := [.int .u8 (n),
  .int .u8 (pos),
  .int .u8 (chr),
  .int .i64 (pos),
  St' ([u8 46, u8 112, u8 112, u8 (chr), u8 112]),
  St' ([u8 46]),
  St' ([u8 112, u8 112, u8 (chr), u8 112]),
  .int .u8 (chr)]
theorem path27 (n pos chr : Int) (bb : BB n pos chr) (h0 : n % 11 = 4) (h1 : pos % 4 = 2) (h2 : 97 ≤ chr) (h3 : ¬ (chr ≤ 122)) (w : World) (hl : laidE w) : Cw #[.int .u8 n, .int .u8 pos, .int .u8 chr] w := by
  obtain ⟨fi, hfi, hb⟩ := fiE
  refine runP (tb := tbl hy27) ((tabkOk (nuL (nu27 n pos chr)) (nuL_one (l := nu27 n pos chr) rfl)).hyps ?_) rfl hfi hb (run27 ) (args := [.int .u8 n, .int .u8 pos, .int .u8 chr]) (by simp only [RelL, Rel]; exact ⟨_, _, rfl, rfl, ⟨_, _, rfl, rfl, ⟨_, _, rfl, rfl, rfl⟩⟩⟩) w hl
  obtain ⟨b0, b1, b2, b3, b4, b5⟩ := bb
  unfold hy27
  refine hcons (kRem (isX rfl) (isZ (m := 11) rfl) (denZ (m := 4) rfl) (by omega) (by omega) (by omega)) ?_
  refine hcons (kConvF (isX rfl) tu3 (denX rfl) (fI64 (by omega) (by omega))) ?_
  refine hcons (kRem (isX rfl) (isZ (m := 4) rfl) (denZ (m := 2) rfl) (by omega) (by omega) (by omega)) ?_
  refine hcons (kGe (isX rfl) (isZ (m := 97) rfl) (decide_eq_true (by omega))) ?_
  refine hcons (kLe (isX rfl) (isZ (m := 122) rfl) (decide_eq_false (by omega))) ?_
  refine hcons (kBytesB (bs := [u8 46, u8 112, u8 112, u8 (chr), u8 112]) (bC (by omega) (bC (by omega) (bC (by omega) (.cons (isB8 (isX rfl) (by omega) (by omega)) (bC (by omega) .nil))))) (denX rfl)) ?_
  refine hcons (kLenE (isX rfl) (denZ (m := 5) rfl) rfl) ?_
  refine hcons (kMid (P := 0) (Q := 1) (isX rfl) (.inl ⟨rfl, rfl⟩) (.inr ⟨_, _, rfl, (isZ (m := 1) rfl)⟩) (by omega) (by omega) (by simp) (denX rfl)) ?_
  refine hcons (kEqS (isX rfl) (isSx (l := [u8 46]) 1 46 rfl) (decide_eq_true rfl)) ?_
  refine hcons (kMid (P := 1) (Q := 5) (isX rfl) (.inr ⟨_, _, rfl, (isZ (m := 1) rfl)⟩) (.inl ⟨rfl, rfl⟩) (by omega) (by omega) (by simp) (denX rfl)) ?_
  refine hcons (kLenE (isX rfl) (denZ (m := 4) rfl) rfl) ?_
  refine hcons (kIdxC (isX rfl) (by simp) rfl (by omega)) ?_
  refine hcons (kIdxC (isX rfl) (by simp) rfl (by omega)) ?_
  refine hcons (kIdxE (i := 2) (isX rfl) (isZ (m := 2) rfl) (denX rfl) rfl (by simp) (bt_at rfl (by omega) (by omega))) ?_
  refine hcons (kGe (isX rfl) (isZ (m := 97) rfl) (decide_eq_true (by omega))) ?_
  refine hcons (kLe (isX rfl) (isZ (m := 122) rfl) (decide_eq_false (by omega))) ?_
  exact hnil
def hy28 : List (HK × AV) := [(.bin .rem (.x 0) (u1 11), u1 4),
  (.conv 3 (.x 1), .x 3),
  (.bin .rem (.x 3) (i6 4), i6 3),
  (.bin .geq (.x 2) (u1 97), .b false),
  (.bytes [u1 46, u1 112, u1 112, u1 112, .x 2], .x 4),
  (.len (.x 4), i6 5),
  (.sub (.x 4) none (some (i6 1)), .x 5),
  (.bin .eql (.x 5) (.s 1 46), .b true),
  (.sub (.x 4) (some (i6 1)) none, .x 6),
  (.len (.x 6), i6 4),
  (.idx (.x 6) (i6 0), u1 112),
  (.idx (.x 6) (i6 1), u1 112),
  (.idx (.x 6) (i6 2), u1 112),
  (.idx (.x 6) (i6 3), .x 7),
  (.bin .geq (.x 7) (u1 97), .b false)]
theorem run28 : okB (call (tbl hy28) 9000 7 [.x 0, .x 1, .x 2] ⟨H0 , 7, 0, 0⟩) = true := by kernel_rfl
def nu28 (n pos chr : Int) : List Value := [.int .u8 (n),
  .int .u8 (pos),
  .int .u8 (chr),
  .int .i64 (pos),
  St' ([u8 46, u8 112, u8 112, u8 112, u8 (chr)]),
  St' ([u8 46]),
  St' ([u8 112, u8 112, u8 112, u8 (chr)]),
  .int .u8 (chr)]
theorem path28 (n pos chr : Int) (bb : BB n pos chr) (h0 : n % 11 = 4) (h1 : pos % 4 = 3) (h2 : ¬ (97 ≤ chr)) (w : World) (hl : laidE w) : Cw #[.int .u8 n, .int .u8 pos, .int .u8 chr] w := by
  obtain ⟨fi, hfi, hb⟩ := fiE
  refine runP (tb := tbl hy28) ((tabkOk (nuL (nu28 n pos chr)) (nuL_one (l := nu28 n pos chr) rfl)).hyps ?_) rfl hfi hb (run28 ) (args := [.int .u8 n, .int .u8 pos, .int .u8 chr]) (by simp only [RelL, Rel]; exact ⟨_, _, rfl, rfl, ⟨_, _, rfl, rfl, ⟨_, _, rfl, rfl, rfl⟩⟩⟩) w hl
  obtain ⟨b0, b1, b2, b3, b4, b5⟩ := bb
  unfold hy28
  refine hcons (kRem (isX rfl) (isZ (m := 11) rfl) (denZ (m := 4) rfl) (by omega) (by omega) (by omega)) ?_
  refine hcons (kConvF (isX rfl) tu3 (denX rfl) (fI64 (by omega) (by omega))) ?_
  refine hcons (kRem (isX rfl) (isZ (m := 4) rfl) (denZ (m := 3) rfl) (by omega) (by omega) (by omega)) ?_
  refine hcons (kGe (isX rfl) (isZ (m := 97) rfl) (decide_eq_false (by omega))) ?_
  refine hcons (kBytesB (bs := [u8 46, u8 112, u8 112, u8 112, u8 (chr)]) (bC (by omega) (bC (by omega) (bC (by omega) (bC (by omega) (.cons (isB8 (isX rfl) (by omega) (by omega)) .nil))))) (denX rfl)) ?_
  refine hcons (kLenE (isX rfl) (denZ (m := 5) rfl) rfl) ?_
  refine hcons (kMid (P := 0) (Q := 1) (isX rfl) (.inl ⟨rfl, rfl⟩) (.inr ⟨_, _, rfl, (isZ (m := 1) rfl)⟩) (by omega) (by omega) (by simp) (denX rfl)) ?_
  refine hcons (kEqS (isX rfl) (isSx (l := [u8 46]) 1 46 rfl) (decide_eq_true rfl)) ?_
  refine hcons (kMid (P := 1) (Q := 5) (isX rfl) (.inr ⟨_, _, rfl, (isZ (m := 1) rfl)⟩) (.inl ⟨rfl, rfl⟩) (by omega) (by omega) (by simp) (denX rfl)) ?_
  refine hcons (kLenE (isX rfl) (denZ (m := 4) rfl) rfl) ?_
  refine hcons (kIdxC (isX rfl) (by simp) rfl (by omega)) ?_
  refine hcons (kIdxC (isX rfl) (by simp) rfl (by omega)) ?_
  refine hcons (kIdxC (isX rfl) (by simp) rfl (by omega)) ?_
  refine hcons (kIdxE (i := 3) (isX rfl) (isZ (m := 3) rfl) (denX rfl) rfl (by simp) (bt_at rfl (by omega) (by omega))) ?_
  refine hcons (kGe (isX rfl) (isZ (m := 97) rfl) (decide_eq_false (by omega))) ?_
  exact hnil
def hy29 : List (HK × AV) := [(.bin .rem (.x 0) (u1 11), u1 4),
  (.conv 3 (.x 1), .x 3),
  (.bin .rem (.x 3) (i6 4), i6 3),
  (.bin .geq (.x 2) (u1 97), .b true),
  (.bin .leq (.x 2) (u1 122), .b true),
  (.bytes [u1 46, u1 112, u1 112, u1 112, .x 2], .x 4),
  (.len (.x 4), i6 5),
  (.sub (.x 4) none (some (i6 1)), .x 5),
  (.bin .eql (.x 5) (.s 1 46), .b true),
  (.sub (.x 4) (some (i6 1)) none, .x 6),
  (.len (.x 6), i6 4),
  (.idx (.x 6) (i6 0), u1 112),
  (.idx (.x 6) (i6 1), u1 112),
  (.idx (.x 6) (i6 2), u1 112),
  (.idx (.x 6) (i6 3), .x 7),
  (.bin .geq (.x 7) (u1 97), .b true),
  (.bin .leq (.x 7) (u1 122), .b true),
  (.bin .neq (.x 6) (.s 0 0), .b true)]
theorem run29 : okB (call (tbl hy29) 9000 7 [.x 0, .x 1, .x 2] ⟨H0 , 7, 0, 0⟩) = true := by kernel_rfl
def nu29 (n pos chr : Int) : List Value := [.int .u8 (n),
  .int .u8 (pos),
  .int .u8 (chr),
  .int .i64 (pos),
  St' ([u8 46, u8 112, u8 112, u8 112, u8 (chr)]),
  St' ([u8 46]),
  St' ([u8 112, u8 112, u8 112, u8 (chr)]),
  .int .u8 (chr)]
theorem path29 (n pos chr : Int) (bb : BB n pos chr) (h0 : n % 11 = 4) (h1 : pos % 4 = 3) (h2 : 97 ≤ chr) (h3 : chr ≤ 122) (w : World) (hl : laidE w) : Cw #[.int .u8 n, .int .u8 pos, .int .u8 chr] w := by
  obtain ⟨fi, hfi, hb⟩ := fiE
  refine runP (tb := tbl hy29) ((tabkOk (nuL (nu29 n pos chr)) (nuL_one (l := nu29 n pos chr) rfl)).hyps ?_) rfl hfi hb (run29 ) (args := [.int .u8 n, .int .u8 pos, .int .u8 chr]) (by simp only [RelL, Rel]; exact ⟨_, _, rfl, rfl, ⟨_, _, rfl, rfl, ⟨_, _, rfl, rfl, rfl⟩⟩⟩) w hl
  obtain ⟨b0, b1, b2, b3, b4, b5⟩ := bb
  unfold hy29
  refine hcons (kRem (isX rfl) (isZ (m := 11) rfl) (denZ (m := 4) rfl) (by omega) (by omega) (by omega)) ?_
  refine hcons (kConvF (isX rfl) tu3 (denX rfl) (fI64 (by omega) (by omega))) ?_
  refine hcons (kRem (isX rfl) (isZ (m := 4) rfl) (denZ (m := 3) rfl) (by omega) (by omega) (by omega)) ?_
  refine hcons (kGe (isX rfl) (isZ (m := 97) rfl) (decide_eq_true (by omega))) ?_
  refine hcons (kLe (isX rfl) (isZ (m := 122) rfl) (decide_eq_true (by omega))) ?_
  refine hcons (kBytesB (bs := [u8 46, u8 112, u8 112, u8 112, u8 (chr)]) (bC (by omega) (bC (by omega) (bC (by omega) (bC (by omega) (.cons (isB8 (isX rfl) (by omega) (by omega)) .nil))))) (denX rfl)) ?_
  refine hcons (kLenE (isX rfl) (denZ (m := 5) rfl) rfl) ?_
  refine hcons (kMid (P := 0) (Q := 1) (isX rfl) (.inl ⟨rfl, rfl⟩) (.inr ⟨_, _, rfl, (isZ (m := 1) rfl)⟩) (by omega) (by omega) (by simp) (denX rfl)) ?_
  refine hcons (kEqS (isX rfl) (isSx (l := [u8 46]) 1 46 rfl) (decide_eq_true rfl)) ?_
  refine hcons (kMid (P := 1) (Q := 5) (isX rfl) (.inr ⟨_, _, rfl, (isZ (m := 1) rfl)⟩) (.inl ⟨rfl, rfl⟩) (by omega) (by omega) (by simp) (denX rfl)) ?_
  refine hcons (kLenE (isX rfl) (denZ (m := 4) rfl) rfl) ?_
  refine hcons (kIdxC (isX rfl) (by simp) rfl (by omega)) ?_
  refine hcons (kIdxC (isX rfl) (by simp) rfl (by omega)) ?_
  refine hcons (kIdxC (isX rfl) (by simp) rfl (by omega)) ?_
  refine hcons (kIdxE (i := 3) (isX rfl) (isZ (m := 3) rfl) (denX rfl) rfl (by simp) (bt_at rfl (by omega) (by omega))) ?_
  refine hcons (kGe (isX rfl) (isZ (m := 97) rfl) (decide_eq_true (by omega))) ?_
  refine hcons (kLe (isX rfl) (isZ (m := 122) rfl) (decide_eq_true (by omega))) ?_
  refine hcons (kNeS (isX rfl) (isSx (l := ([] : List UInt8)) 0 0 rfl) (bnT (by first | exact nilT (by first | omega | (simp only [List.length_append, List.length_cons, List.length_nil, List.length_take, List.length_drop, List.length_replicate, Int.natCast_add] at * <;> omega)) | exact nilF (by first | omega | (simp only [List.length_append, List.length_cons, List.length_nil, List.length_take, List.length_drop, List.length_replicate, Int.natCast_add] at * <;> omega)) | exact nilT' (by first | omega | (simp only [List.length_append, List.length_cons, List.length_nil, List.length_take, List.length_drop, List.length_replicate, Int.natCast_add] at * <;> omega)) | exact nilF' (by first | omega | (simp only [List.length_append, List.length_cons, List.length_nil, List.length_take, List.length_drop, List.length_replicate, Int.natCast_add] at * <;> omega))))) ?_
  exact hnil
def hy30 : List (HK × AV) := [(.bin .rem (.x 0) (u1 11), u1 4),
  (.conv 3 (.x 1), .x 3),
  (.bin .rem (.x 3) (i6 4), i6 3),
  (.bin .geq (.x 2) (u1 97), .b true),
  (.bin .leq (.x 2) (u1 122), .b false),
  (.bytes [u1 46, u1 112, u1 112, u1 112, .x 2], .x 4),
  (.len (.x 4), i6 5),
  (.sub (.x 4) none (some (i6 1)), .x 5),
  (.bin .eql (.x 5) (.s 1 46), .b true),
  (.sub (.x 4) (some (i6 1)) none, .x 6),
  (.len (.x 6), i6 4),
  (.idx (.x 6) (i6 0), u1 112),
  (.idx (.x 6) (i6 1), u1 112),
  (.idx (.x 6) (i6 2), u1 112),
  (.idx (.x 6) (i6 3), .x 7),
  (.bin .geq (.x 7) (u1 97), .b true),
  (.bin .leq (.x 7) (u1 122), .b false)]
theorem run30 : okB (call (tbl hy30) 9000 7 [.x 0, .x 1, .x 2] ⟨H0 , 7, 0, 0⟩) = true := by kernel_rfl
def nu30 (n pos chr : Int) : List Value := [.int .u8 (n),
  .int .u8 (pos),
  .int .u8 (chr),
  .int .i64 (pos),
  St' ([u8 46, u8 112, u8 112, u8 112, u8 (chr)]),
  St' ([u8 46]),
  St' ([u8 112, u8 112, u8 112, u8 (chr)]),
  .int .u8 (chr)]
theorem path30 (n pos chr : Int) (bb : BB n pos chr) (h0 : n % 11 = 4) (h1 : pos % 4 = 3) (h2 : 97 ≤ chr) (h3 : ¬ (chr ≤ 122)) (w : World) (hl : laidE w) : Cw #[.int .u8 n, .int .u8 pos, .int .u8 chr] w := by
  obtain ⟨fi, hfi, hb⟩ := fiE
  refine runP (tb := tbl hy30) ((tabkOk (nuL (nu30 n pos chr)) (nuL_one (l := nu30 n pos chr) rfl)).hyps ?_) rfl hfi hb (run30 ) (args := [.int .u8 n, .int .u8 pos, .int .u8 chr]) (by simp only [RelL, Rel]; exact ⟨_, _, rfl, rfl, ⟨_, _, rfl, rfl, ⟨_, _, rfl, rfl, rfl⟩⟩⟩) w hl
  obtain ⟨b0, b1, b2, b3, b4, b5⟩ := bb
  unfold hy30
  refine hcons (kRem (isX rfl) (isZ (m := 11) rfl) (denZ (m := 4) rfl) (by omega) (by omega) (by omega)) ?_
  refine hcons (kConvF (isX rfl) tu3 (denX rfl) (fI64 (by omega) (by omega))) ?_
  refine hcons (kRem (isX rfl) (isZ (m := 4) rfl) (denZ (m := 3) rfl) (by omega) (by omega) (by omega)) ?_
  refine hcons (kGe (isX rfl) (isZ (m := 97) rfl) (decide_eq_true (by omega))) ?_
  refine hcons (kLe (isX rfl) (isZ (m := 122) rfl) (decide_eq_false (by omega))) ?_
  refine hcons (kBytesB (bs := [u8 46, u8 112, u8 112, u8 112, u8 (chr)]) (bC (by omega) (bC (by omega) (bC (by omega) (bC (by omega) (.cons (isB8 (isX rfl) (by omega) (by omega)) .nil))))) (denX rfl)) ?_
  refine hcons (kLenE (isX rfl) (denZ (m := 5) rfl) rfl) ?_
  refine hcons (kMid (P := 0) (Q := 1) (isX rfl) (.inl ⟨rfl, rfl⟩) (.inr ⟨_, _, rfl, (isZ (m := 1) rfl)⟩) (by omega) (by omega) (by simp) (denX rfl)) ?_
  refine hcons (kEqS (isX rfl) (isSx (l := [u8 46]) 1 46 rfl) (decide_eq_true rfl)) ?_
  refine hcons (kMid (P := 1) (Q := 5) (isX rfl) (.inr ⟨_, _, rfl, (isZ (m := 1) rfl)⟩) (.inl ⟨rfl, rfl⟩) (by omega) (by omega) (by simp) (denX rfl)) ?_
  refine hcons (kLenE (isX rfl) (denZ (m := 4) rfl) rfl) ?_
  refine hcons (kIdxC (isX rfl) (by simp) rfl (by omega)) ?_
  refine hcons (kIdxC (isX rfl) (by simp) rfl (by omega)) ?_
  refine hcons (kIdxC (isX rfl) (by simp) rfl (by omega)) ?_
  refine hcons (kIdxE (i := 3) (isX rfl) (isZ (m := 3) rfl) (denX rfl) rfl (by simp) (bt_at rfl (by omega) (by omega))) ?_
  refine hcons (kGe (isX rfl) (isZ (m := 97) rfl) (decide_eq_true (by omega))) ?_
  refine hcons (kLe (isX rfl) (isZ (m := 122) rfl) (decide_eq_false (by omega))) ?_
  exact hnil
def hy31 : List (HK × AV) := [(.bin .rem (.x 0) (u1 11), u1 5),
  (.conv 3 (.x 1), .x 3),
  (.bin .rem (.x 3) (i6 5), i6 0),
  (.bin .geq (.x 2) (u1 97), .b false),
  (.bytes [u1 46, .x 2, u1 112, u1 112, u1 112, u1 112], .x 4),
  (.len (.x 4), i6 6),
  (.sub (.x 4) none (some (i6 1)), .x 5),
  (.bin .eql (.x 5) (.s 1 46), .b true),
  (.sub (.x 4) (some (i6 1)) none, .x 6),
  (.len (.x 6), i6 5),
  (.idx (.x 6) (i6 0), .x 7),
  (.bin .geq (.x 7) (u1 97), .b false)]
theorem run31 : okB (call (tbl hy31) 9000 7 [.x 0, .x 1, .x 2] ⟨H0 , 7, 0, 0⟩) = true := by kernel_rfl
def nu31 (n pos chr : Int) : List Value := [.int .u8 (n),
  .int .u8 (pos),
  .int .u8 (chr),
  .int .i64 (pos),
  St' ([u8 46, u8 (chr), u8 112, u8 112, u8 112, u8 112]),
  St' ([u8 46]),
  St' ([u8 (chr), u8 112, u8 112, u8 112, u8 112]),
  .int .u8 (chr)]
theorem path31 (n pos chr : Int) (bb : BB n pos chr) (h0 : n % 11 = 5) (h1 : pos % 5 = 0) (h2 : ¬ (97 ≤ chr)) (w : World) (hl : laidE w) : Cw #[.int .u8 n, .int .u8 pos, .int .u8 chr] w := by
  obtain ⟨fi, hfi, hb⟩ := fiE
  refine runP (tb := tbl hy31) ((tabkOk (nuL (nu31 n pos chr)) (nuL_one (l := nu31 n pos chr) rfl)).hyps ?_) rfl hfi hb (run31 ) (args := [.int .u8 n, .int .u8 pos, .int .u8 chr]) (by simp only [RelL, Rel]; exact ⟨_, _, rfl, rfl, ⟨_, _, rfl, rfl, ⟨_, _, rfl, rfl, rfl⟩⟩⟩) w hl
  obtain ⟨b0, b1, b2, b3, b4, b5⟩ := bb
  unfold hy31
  refine hcons (kRem (isX rfl) (isZ (m := 11) rfl) (denZ (m := 5) rfl) (by omega) (by omega) (by omega)) ?_
  refine hcons (kConvF (isX rfl) tu3 (denX rfl) (fI64 (by omega) (by omega))) ?_
  refine hcons (kRem (isX rfl) (isZ (m := 5) rfl) (denZ (m := 0) rfl) (by omega) (by omega) (by omega)) ?_
  refine hcons (kGe (isX rfl) (isZ (m := 97) rfl) (decide_eq_false (by omega))) ?_
  refine hcons (kBytesB (bs := [u8 46, u8 (chr), u8 112, u8 112, u8 112, u8 112]) (bC (by omega) (.cons (isB8 (isX rfl) (by omega) (by omega)) (bC (by omega) (bC (by omega) (bC (by omega) (bC (by omega) .nil)))))) (denX rfl)) ?_
  refine hcons (kLenE (isX rfl) (denZ (m := 6) rfl) rfl) ?_
  refine hcons (kMid (P := 0) (Q := 1) (isX rfl) (.inl ⟨rfl, rfl⟩) (.inr ⟨_, _, rfl, (isZ (m := 1) rfl)⟩) (by omega) (by omega) (by simp) (denX rfl)) ?_
  refine hcons (kEqS (isX rfl) (isSx (l := [u8 46]) 1 46 rfl) (decide_eq_true rfl)) ?_
  refine hcons (kMid (P := 1) (Q := 6) (isX rfl) (.inr ⟨_, _, rfl, (isZ (m := 1) rfl)⟩) (.inl ⟨rfl, rfl⟩) (by omega) (by omega) (by simp) (denX rfl)) ?_
  refine hcons (kLenE (isX rfl) (denZ (m := 5) rfl) rfl) ?_
  refine hcons (kIdxE (i := 0) (isX rfl) (isZ (m := 0) rfl) (denX rfl) rfl (by simp) (bt_at rfl (by omega) (by omega))) ?_
  refine hcons (kGe (isX rfl) (isZ (m := 97) rfl) (decide_eq_false (by omega))) ?_
  exact hnil
def hy32 : List (HK × AV) := [(.bin .rem (.x 0) (u1 11), u1 5),
  (.conv 3 (.x 1), .x 3),
  (.bin .rem (.x 3) (i6 5), i6 0),
  (.bin .geq (.x 2) (u1 97), .b true),
  (.bin .leq (.x 2) (u1 122), .b true),
  (.bytes [u1 46, .x 2, u1 112, u1 112, u1 112, u1 112], .x 4),
  (.len (.x 4), i6 6),
  (.sub (.x 4) none (some (i6 1)), .x 5),
  (.bin .eql (.x 5) (.s 1 46), .b true),
  (.sub (.x 4) (some (i6 1)) none, .x 6),
  (.len (.x 6), i6 5),
  (.idx (.x 6) (i6 0), .x 7),
  (.bin .geq (.x 7) (u1 97), .b true),
  (.bin .leq (.x 7) (u1 122), .b true),
  (.idx (.x 6) (i6 1), u1 112),
  (.idx (.x 6) (i6 2), u1 112),
  (.idx (.x 6) (i6 3), u1 112),
  (.idx (.x 6) (i6 4), u1 112),
  (.bin .neq (.x 6) (.s 0 0), .b true)]
theorem run32 : okB (call (tbl hy32) 9000 7 [.x 0, .x 1, .x 2] ⟨H0 , 7, 0, 0⟩) = true := by kernel_rfl
def nu32 (n pos chr : Int) : List Value := [.int .u8 (n),
  .int .u8 (pos),
  .int .u8 (chr),
  .int .i64 (pos),
  St' ([u8 46, u8 (chr), u8 112, u8 112, u8 112, u8 112]),
  St' ([u8 46]),
  St' ([u8 (chr), u8 112, u8 112, u8 112, u8 112]),
  .int .u8 (chr)]
theorem path32 (n pos chr : Int) (bb : BB n pos chr) (h0 : n % 11 = 5) (h1 : pos % 5 = 0) (h2 : 97 ≤ chr) (h3 : chr ≤ 122) (w : World) (hl : laidE w) : Cw #[.int .u8 n, .int .u8 pos, .int .u8 chr] w := by
  obtain ⟨fi, hfi, hb⟩ := fiE
  refine runP (tb := tbl hy32) ((tabkOk (nuL (nu32 n pos chr)) (nuL_one (l := nu32 n pos chr) rfl)).hyps ?_) rfl hfi hb (run32 ) (args := [.int .u8 n, .int .u8 pos, .int .u8 chr]) (by simp only [RelL, Rel]; exact ⟨_, _, rfl, rfl, ⟨_, _, rfl, rfl, ⟨_, _, rfl, rfl, rfl⟩⟩⟩) w hl
  obtain ⟨b0, b1, b2, b3, b4, b5⟩ := bb
  unfold hy32
  refine hcons (kRem (isX rfl) (isZ (m := 11) rfl) (denZ (m := 5) rfl) (by omega) (by omega) (by omega)) ?_
  refine hcons (kConvF (isX rfl) tu3 (denX rfl) (fI64 (by omega) (by omega))) ?_
  refine hcons (kRem (isX rfl) (isZ (m := 5) rfl) (denZ (m := 0) rfl) (by omega) (by omega) (by omega)) ?_
  refine hcons (kGe (isX rfl) (isZ (m := 97) rfl) (decide_eq_true (by omega))) ?_
  refine hcons (kLe (isX rfl) (isZ (m := 122) rfl) (decide_eq_true (by omega))) ?_
  refine hcons (kBytesB (bs := [u8 46, u8 (chr), u8 112, u8 112, u8 112, u8 112]) (bC (by omega) (.cons (isB8 (isX rfl) (by omega) (by omega)) (bC (by omega) (bC (by omega) (bC (by omega) (bC (by omega) .nil)))))) (denX rfl)) ?_
  refine hcons (kLenE (isX rfl) (denZ (m := 6) rfl) rfl) ?_
  refine hcons (kMid (P := 0) (Q := 1) (isX rfl) (.inl ⟨rfl, rfl⟩) (.inr ⟨_, _, rfl, (isZ (m := 1) rfl)⟩) (by omega) (by omega) (by simp) (denX rfl)) ?_
  refine hcons (kEqS (isX rfl) (isSx (l := [u8 46]) 1 46 rfl) (decide_eq_true rfl)) ?_
  refine hcons (kMid (P := 1) (Q := 6) (isX rfl) (.inr ⟨_, _, rfl, (isZ (m := 1) rfl)⟩) (.inl ⟨rfl, rfl⟩) (by omega) (by omega) (by simp) (denX rfl)) ?_
  refine hcons (kLenE (isX rfl) (denZ (m := 5) rfl) rfl) ?_
  refine hcons (kIdxE (i := 0) (isX rfl) (isZ (m := 0) rfl) (denX rfl) rfl (by simp) (bt_at rfl (by omega) (by omega))) ?_
  refine hcons (kGe (isX rfl) (isZ (m := 97) rfl) (decide_eq_true (by omega))) ?_
  refine hcons (kLe (isX rfl) (isZ (m := 122) rfl) (decide_eq_true (by omega))) ?_
  refine hcons (kIdxC (isX rfl) (by simp) rfl (by omega)) ?_
  refine hcons (kIdxC (isX rfl) (by simp) rfl (by omega)) ?_
  refine hcons (kIdxC (isX rfl) (by simp) rfl (by omega)) ?_
  refine hcons (kIdxC (isX rfl) (by simp) rfl (by omega)) ?_
  refine hcons (kNeS (isX rfl) (isSx (l := ([] : List UInt8)) 0 0 rfl) (bnT (by first | exact nilT (by first | omega | (simp only [List.length_append, List.length_cons, List.length_nil, List.length_take, List.length_drop, List.length_replicate, Int.natCast_add] at * <;> omega)) | exact nilF (by first | omega | (simp only [List.length_append, List.length_cons, List.length_nil, List.length_take, List.length_drop, List.length_replicate, Int.natCast_add] at * <;> omega)) | exact nilT' (by first | omega | (simp only [List.length_append, List.length_cons, List.length_nil, List.length_take, List.length_drop, List.length_replicate, Int.natCast_add] at * <;> omega)) | exact nilF' (by first | omega | (simp only [List.length_append, List.length_cons, List.length_nil, List.length_take, List.length_drop, List.length_replicate, Int.natCast_add] at * <;> omega))))) ?_
  exact hnil
def hy33 : List (HK × AV) := [(.bin .rem (.x 0) (u1 11), u1 5),
  (.conv 3 (.x 1), .x 3),
  (.bin .rem (.x 3) (i6 5), i6 0),
  (.bin .geq (.x 2) (u1 97), .b true),
  (.bin .leq (.x 2) (u1 122), .b false),
  (.bytes [u1 46, .x 2, u1 112, u1 112, u1 112, u1 112], .x 4),
  (.len (.x 4), i6 6),
  (.sub (.x 4) none (some (i6 1)), .x 5),
  (.bin .eql (.x 5) (.s 1 46), .b true),
  (.sub (.x 4) (some (i6 1)) none, .x 6),
  (.len (.x 6), i6 5),
  (.idx (.x 6) (i6 0), .x 7),
  (.bin .geq (.x 7) (u1 97), .b true),
  (.bin .leq (.x 7) (u1 122), .b false)]
theorem run33 : okB (call (tbl hy33) 9000 7 [.x 0, .x 1, .x 2] ⟨H0 , 7, 0, 0⟩) = true := by kernel_rfl
def nu33 (n pos chr : Int) : List Value := [.int .u8 (n),
  .int .u8 (pos),
  .int .u8 (chr),
  .int .i64 (pos),
  St' ([u8 46, u8 (chr), u8 112, u8 112, u8 112, u8 112]),
  St' ([u8 46]),
  St' ([u8 (chr), u8 112, u8 112, u8 112, u8 112]),
  .int .u8 (chr)]
theorem path33 (n pos chr : Int) (bb : BB n pos chr) (h0 : n % 11 = 5) (h1 : pos % 5 = 0) (h2 : 97 ≤ chr) (h3 : ¬ (chr ≤ 122)) (w : World) (hl : laidE w) : Cw #[.int .u8 n, .int .u8 pos, .int .u8 chr] w := by
  obtain ⟨fi, hfi, hb⟩ := fiE
  refine runP (tb := tbl hy33) ((tabkOk (nuL (nu33 n pos chr)) (nuL_one (l := nu33 n pos chr) rfl)).hyps ?_) rfl hfi hb (run33 ) (args := [.int .u8 n, .int .u8 pos, .int .u8 chr]) (by simp only [RelL, Rel]; exact ⟨_, _, rfl, rfl, ⟨_, _, rfl, rfl, ⟨_, _, rfl, rfl, rfl⟩⟩⟩) w hl
  obtain ⟨b0, b1, b2, b3, b4, b5⟩ := bb
  unfold hy33
  refine hcons (kRem (isX rfl) (isZ (m := 11) rfl) (denZ (m := 5) rfl) (by omega) (by omega) (by omega)) ?_
  refine hcons (kConvF (isX rfl) tu3 (denX rfl) (fI64 (by omega) (by omega))) ?_
  refine hcons (kRem (isX rfl) (isZ (m := 5) rfl) (denZ (m := 0) rfl) (by omega) (by omega) (by omega)) ?_
  refine hcons (kGe (isX rfl) (isZ (m := 97) rfl) (decide_eq_true (by omega))) ?_
  refine hcons (kLe (isX rfl) (isZ (m := 122) rfl) (decide_eq_false (by omega))) ?_
  refine hcons (kBytesB (bs := [u8 46, u8 (chr), u8 112, u8 112, u8 112, u8 112]) (bC (by omega) (.cons (isB8 (isX rfl) (by omega) (by omega)) (bC (by omega) (bC (by omega) (bC (by omega) (bC (by omega) .nil)))))) (denX rfl)) ?_
  refine hcons (kLenE (isX rfl) (denZ (m := 6) rfl) rfl) ?_
  refine hcons (kMid (P := 0) (Q := 1) (isX rfl) (.inl ⟨rfl, rfl⟩) (.inr ⟨_, _, rfl, (isZ (m := 1) rfl)⟩) (by omega) (by omega) (by simp) (denX rfl)) ?_
  refine hcons (kEqS (isX rfl) (isSx (l := [u8 46]) 1 46 rfl) (decide_eq_true rfl)) ?_
  refine hcons (kMid (P := 1) (Q := 6) (isX rfl) (.inr ⟨_, _, rfl, (isZ (m := 1) rfl)⟩) (.inl ⟨rfl, rfl⟩) (by omega) (by omega) (by simp) (denX rfl)) ?_
  refine hcons (kLenE (isX rfl) (denZ (m := 5) rfl) rfl) ?_
  refine hcons (kIdxE (i := 0) (isX rfl) (isZ (m := 0) rfl) (denX rfl) rfl (by simp) (bt_at rfl (by omega) (by omega))) ?_
  refine hcons (kGe (isX rfl) (isZ (m := 97) rfl) (decide_eq_true (by omega))) ?_
  refine hcons (kLe (isX rfl) (isZ (m := 122) rfl) (decide_eq_false (by omega))) ?_
  exact hnil
def hy34 : List (HK × AV) := [(.bin .rem (.x 0) (u1 11), u1 5),
  (.conv 3 (.x 1), .x 3),
  (.bin .rem (.x 3) (i6 5), i6 1),
  (.bin .geq (.x 2) (u1 97), .b false),
  (.bytes [u1 46, u1 112, .x 2, u1 112, u1 112, u1 112], .x 4),
  (.len (.x 4), i6 6),
  (.sub (.x 4) none (some (i6 1)), .x 5),
  (.bin .eql (.x 5) (.s 1 46), .b true),
  (.sub (.x 4) (some (i6 1)) none, .x 6),
  (.len (.x 6), i6 5),
  (.idx (.x 6) (i6 0), u1 112),
  (.idx (.x 6) (i6 1), .x 7),
  (.bin .geq (.x 7) (u1 97), .b false)]
theorem run34 : okB (call (tbl hy34) 9000 7 [.x 0, .x 1, .x 2] ⟨H0 , 7, 0, 0⟩) = true := by kernel_rfl
def nu34 (n pos chr : Int) : List Value := [.int .u8 (n),
  .int .u8 (pos),
  .int .u8 (chr),
  .int .i64 (pos),
  St' ([u8 46, u8 112, u8 (chr), u8 112, u8 112, u8 112]),
  St' ([u8 46]),
  St' ([u8 112, u8 (chr), u8 112, u8 112, u8 112]),
  .int .u8 (chr)]
theorem path34 (n pos chr : Int) (bb : BB n pos chr) (h0 : n % 11 = 5) (h1 : pos % 5 = 1) (h2 : ¬ (97 ≤ chr)) (w : World) (hl : laidE w) : Cw #[.int .u8 n, .int .u8 pos, .int .u8 chr] w := by
  obtain ⟨fi, hfi, hb⟩ := fiE
  refine runP (tb := tbl hy34) ((tabkOk (nuL (nu34 n pos chr)) (nuL_one (l := nu34 n pos chr) rfl)).hyps ?_) rfl hfi hb (run34 ) (args := [.int .u8 n, .int .u8 pos, .int .u8 chr]) (by simp only [RelL, Rel]; exact ⟨_, _, rfl, rfl, ⟨_, _, rfl, rfl, ⟨_, _, rfl, rfl, rfl⟩⟩⟩) w hl
  obtain ⟨b0, b1, b2, b3, b4, b5⟩ := bb
  unfold hy34
  refine hcons (kRem (isX rfl) (isZ (m := 11) rfl) (denZ (m := 5) rfl) (by omega) (by omega) (by omega)) ?_
  refine hcons (kConvF (isX rfl) tu3 (denX rfl) (fI64 (by omega) (by omega))) ?_
  refine hcons (kRem (isX rfl) (isZ (m := 5) rfl) (denZ (m := 1) rfl) (by omega) (by omega) (by omega)) ?_
  refine hcons (kGe (isX rfl) (isZ (m := 97) rfl) (decide_eq_false (by omega))) ?_
  refine hcons (kBytesB (bs := [u8 46, u8 112, u8 (chr), u8 112, u8 112, u8 112]) (bC (by omega) (bC (by omega) (.cons (isB8 (isX rfl) (by omega) (by omega)) (bC (by omega) (bC (by omega) (bC (by omega) .nil)))))) (denX rfl)) ?_
  refine hcons (kLenE (isX rfl) (denZ (m := 6) rfl) rfl) ?_
  refine hcons (kMid (P := 0) (Q := 1) (isX rfl) (.inl ⟨rfl, rfl⟩) (.inr ⟨_, _, rfl, (isZ (m := 1) rfl)⟩) (by omega) (by omega) (by simp) (denX rfl)) ?_
  refine hcons (kEqS (isX rfl) (isSx (l := [u8 46]) 1 46 rfl) (decide_eq_true rfl)) ?_
  refine hcons (kMid (P := 1) (Q := 6) (isX rfl) (.inr ⟨_, _, rfl, (isZ (m := 1) rfl)⟩) (.inl ⟨rfl, rfl⟩) (by omega) (by omega) (by simp) (denX rfl)) ?_
  refine hcons (kLenE (isX rfl) (denZ (m := 5) rfl) rfl) ?_
  refine hcons (kIdxC (isX rfl) (by simp) rfl (by omega)) ?_
  refine hcons (kIdxE (i := 1) (isX rfl) (isZ (m := 1) rfl) (denX rfl) rfl (by simp) (bt_at rfl (by omega) (by omega))) ?_
  refine hcons (kGe (isX rfl) (isZ (m := 97) rfl) (decide_eq_false (by omega))) ?_
  exact hnil
def hy35 : List (HK × AV) := [(.bin .rem (.x 0) (u1 11), u1 5),
  (.conv 3 (.x 1), .x 3),
  (.bin .rem (.x 3) (i6 5), i6 1),
  (.bin .geq (.x 2) (u1 97), .b true),
  (.bin .leq (.x 2) (u1 122), .b true),
  (.bytes [u1 46, u1 112, .x 2, u1 112, u1 112, u1 112], .x 4),
  (.len (.x 4), i6 6),
  (.sub (.x 4) none (some (i6 1)), .x 5),
  (.bin .eql (.x 5) (.s 1 46), .b true),
  (.sub (.x 4) (some (i6 1)) none, .x 6),
  (.len (.x 6), i6 5),
  (.idx (.x 6) (i6 0), u1 112),
  (.idx (.x 6) (i6 1), .x 7),
  (.bin .geq (.x 7) (u1 97), .b true),
  (.bin .leq (.x 7) (u1 122), .b true),
  (.idx (.x 6) (i6 2), u1 112),
  (.idx (.x 6) (i6 3), u1 112),
  (.idx (.x 6) (i6 4), u1 112),
  (.bin .neq (.x 6) (.s 0 0), .b true)]
theorem run35 : okB (call (tbl hy35) 9000 7 [.x 0, .x 1, .x 2] ⟨H0 , 7, 0, 0⟩) = true := by kernel_rfl
def nu35 (n pos chr : Int) : List Value := [.int .u8 (n),
  .int .u8 (pos),
  .int .u8 (chr),
  .int .i64 (pos),
  St' ([u8 46, u8 112, u8 (chr), u8 112, u8 112, u8 112]),
  St' ([u8 46]),
  St' ([u8 112, u8 (chr), u8 112, u8 112, u8 112]),
  .int .u8 (chr)]
theorem path35 (n pos chr : Int) (bb : BB n pos chr) (h0 : n % 11 = 5) (h1 : pos % 5 = 1) (h2 : 97 ≤ chr) (h3 : chr ≤ 122) (w : World) (hl : laidE w) : Cw #[.int .u8 n, .int .u8 pos, .int .u8 chr] w := by
  obtain ⟨fi, hfi, hb⟩ := fiE
  refine runP (tb := tbl hy35) ((tabkOk (nuL (nu35 n pos chr)) (nuL_one (l := nu35 n pos chr) rfl)).hyps ?_) rfl hfi hb (run35 ) (args := [.int .u8 n, .int .u8 pos, .int .u8 chr]) (by simp only [RelL, Rel]; exact ⟨_, _, rfl, rfl, ⟨_, _, rfl, rfl, ⟨_, _, rfl, rfl, rfl⟩⟩⟩) w hl
  obtain ⟨b0, b1, b2, b3, b4, b5⟩ := bb
  unfold hy35
  refine hcons (kRem (isX rfl) (isZ (m := 11) rfl) (denZ (m := 5) rfl) (by omega) (by omega) (by omega)) ?_
  refine hcons (kConvF (isX rfl) tu3 (denX rfl) (fI64 (by omega) (by omega))) ?_
  refine hcons (kRem (isX rfl) (isZ (m := 5) rfl) (denZ (m := 1) rfl) (by omega) (by omega) (by omega)) ?_
  refine hcons (kGe (isX rfl) (isZ (m := 97) rfl) (decide_eq_true (by omega))) ?_
  refine hcons (kLe (isX rfl) (isZ (m := 122) rfl) (decide_eq_true (by omega))) ?_
  refine hcons (kBytesB (bs := [u8 46, u8 112, u8 (chr), u8 112, u8 112, u8 112]) (bC (by omega) (bC (by omega) (.cons (isB8 (isX rfl) (by omega) (by omega)) (bC (by omega) (bC (by omega) (bC (by omega) .nil)))))) (denX rfl)) ?_
  refine hcons (kLenE (isX rfl) (denZ (m := 6) rfl) rfl) ?_
  refine hcons (kMid (P := 0) (Q := 1) (isX rfl) (.inl ⟨rfl, rfl⟩) (.inr ⟨_, _, rfl, (isZ (m := 1) rfl)⟩) (by omega) (by omega) (by simp) (denX rfl)) ?_
  refine hcons (kEqS (isX rfl) (isSx (l := [u8 46]) 1 46 rfl) (decide_eq_true rfl)) ?_
  refine hcons (kMid (P := 1) (Q := 6) (isX rfl) (.inr ⟨_, _, rfl, (isZ (m := 1) rfl)⟩) (.inl ⟨rfl, rfl⟩) (by omega) (by omega) (by simp) (denX rfl)) ?_
  refine hcons (kLenE (isX rfl) (denZ (m := 5) rfl) rfl) ?_
  refine hcons (kIdxC (isX rfl) (by simp) rfl (by omega)) ?_
  refine hcons (kIdxE (i := 1) (isX rfl) (isZ (m := 1) rfl) (denX rfl) rfl (by simp) (bt_at rfl (by omega) (by omega))) ?_
  refine hcons (kGe (isX rfl) (isZ (m := 97) rfl) (decide_eq_true (by omega))) ?_
  refine hcons (kLe (isX rfl) (isZ (m := 122) rfl) (decide_eq_true (by omega))) ?_
  refine hcons (kIdxC (isX rfl) (by simp) rfl (by omega)) ?_
  refine hcons (kIdxC (isX rfl) (by simp) rfl (by omega)) ?_
  refine hcons (kIdxC (isX rfl) (by simp) rfl (by omega)) ?_
  refine hcons (kNeS (isX rfl) (isSx (l := ([] : List UInt8)) 0 0 rfl) (bnT (by first | exact nilT (by first | omega | (simp only [List.length_append, List.length_cons, List.length_nil, List.length_take, List.length_drop, List.length_replicate, Int.natCast_add] at * <;> omega)) | exact nilF (by first | omega | (simp only [List.length_append, List.length_cons, List.length_nil, List.length_take, List.length_drop, List.length_replicate, Int.natCast_add] at * <;> omega)) | exact nilT' (by first | omega | (simp only [List.length_append, List.length_cons, List.length_nil, List.length_take, List.length_drop, List.length_replicate, Int.natCast_add] at * <;> omega)) | exact nilF' (by first | omega | (simp only [List.length_append, List.length_cons, List.length_nil, List.length_take, List.length_drop, List.length_replicate, Int.natCast_add] at * <;> omega))))) ?_
  exact hnil
end Go.Proofs.YticlhkekkfelpaaDoor.ruleExts
