/- A part of the proof: an interpreter of the model's own code on partly known states, and that what it answers is what the program answers. No condition of its own. -/
import Derived.Test.YticlhkekkfelpaaDoorB5RuleExtsO
set_option maxRecDepth 100000
set_option linter.unusedVariables false
set_option linter.unusedSimpArgs false
namespace Go.Proofs.YticlhkekkfelpaaDoor.ruleExts
open Go Go.AX Go.Proofs Go.Proofs.YticlhkekkfelpaaDoor
def hy60 : List (HK × AV) := [(.bin .rem (.x 0) (u1 11), u1 6),
  (.conv 3 (.x 1), .x 3),
  (.bin .rem (.x 3) (i6 6), i6 4),
  (.bin .geq (.x 2) (u1 97), .b true),
  (.bin .leq (.x 2) (u1 122), .b false),
  (.bytes [u1 46, u1 112, u1 112, u1 112, u1 112, .x 2, u1 112], .x 4),
  (.len (.x 4), i6 7),
  (.sub (.x 4) none (some (i6 1)), .x 5),
  (.bin .eql (.x 5) (.s 1 46), .b true),
  (.sub (.x 4) (some (i6 1)) none, .x 6),
  (.len (.x 6), i6 6),
  (.idx (.x 6) (i6 0), u1 112),
  (.idx (.x 6) (i6 1), u1 112),
  (.idx (.x 6) (i6 2), u1 112),
  (.idx (.x 6) (i6 3), u1 112),
  (.idx (.x 6) (i6 4), .x 7),
  (.bin .geq (.x 7) (u1 97), .b true),
  (.bin .leq (.x 7) (u1 122), .b false)]
theorem run60 : okB (call (tbl hy60) 9000 7 [.x 0, .x 1, .x 2] ⟨H0 , 7, 0, 0⟩) = true := by kernel_rfl
def nu60 (n pos chr : Int) : List Value := [.int .u8 (n),
  .int .u8 (pos),
  .int .u8 (chr),
  .int .i64 (pos),
  St' ([u8 46, u8 112, u8 112, u8 112, u8 112, u8 (chr), u8 112]),
  St' ([u8 46]),
  St' ([u8 112, u8 112, u8 112, u8 112, u8 (chr), u8 112]),
  .int .u8 (chr)]
theorem path60 (n pos chr : Int) (bb : BB n pos chr) (h0 : n % 11 = 6) (h1 : pos % 6 = 4) (h2 : 97 ≤ chr) (h3 : ¬ (chr ≤ 122)) (w : World) (hl : laidE w) : Cw #[.int .u8 n, .int .u8 pos, .int .u8 chr] w := by
  obtain ⟨fi, hfi, hb⟩ := fiE
  refine runP (tb := tbl hy60) ((tabkOk (nuL (nu60 n pos chr)) (nuL_one (l := nu60 n pos chr) rfl)).hyps ?_) rfl hfi hb (run60 ) (args := [.int .u8 n, .int .u8 pos, .int .u8 chr]) (by simp only [RelL, Rel]; exact ⟨_, _, rfl, rfl, ⟨_, _, rfl, rfl, ⟨_, _, rfl, rfl, rfl⟩⟩⟩) w hl
  obtain ⟨b0, b1, b2, b3, b4, b5⟩ := bb
  unfold hy60
  refine hcons (kRem (isX rfl) (isZ (m := 11) rfl) (denZ (m := 6) rfl) (by omega) (by omega) (by omega)) ?_
  refine hcons (kConvF (isX rfl) tu3 (denX rfl) (fI64 (by omega) (by omega))) ?_
  refine hcons (kRem (isX rfl) (isZ (m := 6) rfl) (denZ (m := 4) rfl) (by omega) (by omega) (by omega)) ?_
  refine hcons (kGe (isX rfl) (isZ (m := 97) rfl) (decide_eq_true (by omega))) ?_
  refine hcons (kLe (isX rfl) (isZ (m := 122) rfl) (decide_eq_false (by omega))) ?_
  refine hcons (kBytesB (bs := [u8 46, u8 112, u8 112, u8 112, u8 112, u8 (chr), u8 112]) (bC (by omega) (bC (by omega) (bC (by omega) (bC (by omega) (bC (by omega) (.cons (isB8 (isX rfl) (by omega) (by omega)) (bC (by omega) .nil))))))) (denX rfl)) ?_
  refine hcons (kLenE (isX rfl) (denZ (m := 7) rfl) rfl) ?_
  refine hcons (kMid (P := 0) (Q := 1) (isX rfl) (.inl ⟨rfl, rfl⟩) (.inr ⟨_, _, rfl, (isZ (m := 1) rfl)⟩) (by omega) (by omega) (by simp) (denX rfl)) ?_
  refine hcons (kEqS (isX rfl) (isSx (l := [u8 46]) 1 46 rfl) (decide_eq_true rfl)) ?_
  refine hcons (kMid (P := 1) (Q := 7) (isX rfl) (.inr ⟨_, _, rfl, (isZ (m := 1) rfl)⟩) (.inl ⟨rfl, rfl⟩) (by omega) (by omega) (by simp) (denX rfl)) ?_
  refine hcons (kLenE (isX rfl) (denZ (m := 6) rfl) rfl) ?_
  refine hcons (kIdxC (isX rfl) (by simp) rfl (by omega)) ?_
  refine hcons (kIdxC (isX rfl) (by simp) rfl (by omega)) ?_
  refine hcons (kIdxC (isX rfl) (by simp) rfl (by omega)) ?_
  refine hcons (kIdxC (isX rfl) (by simp) rfl (by omega)) ?_
  refine hcons (kIdxE (i := 4) (isX rfl) (isZ (m := 4) rfl) (denX rfl) rfl (by simp) (bt_at rfl (by omega) (by omega))) ?_
  refine hcons (kGe (isX rfl) (isZ (m := 97) rfl) (decide_eq_true (by omega))) ?_
  refine hcons (kLe (isX rfl) (isZ (m := 122) rfl) (decide_eq_false (by omega))) ?_
  exact hnil
def hy61 : List (HK × AV) := [(.bin .rem (.x 0) (u1 11), u1 6),
  (.conv 3 (.x 1), .x 3),
  (.bin .rem (.x 3) (i6 6), i6 5),
  (.bin .geq (.x 2) (u1 97), .b false),
  (.bytes [u1 46, u1 112, u1 112, u1 112, u1 112, u1 112, .x 2], .x 4),
  (.len (.x 4), i6 7),
  (.sub (.x 4) none (some (i6 1)), .x 5),
  (.bin .eql (.x 5) (.s 1 46), .b true),
  (.sub (.x 4) (some (i6 1)) none, .x 6),
  (.len (.x 6), i6 6),
  (.idx (.x 6) (i6 0), u1 112),
  (.idx (.x 6) (i6 1), u1 112),
  (.idx (.x 6) (i6 2), u1 112),
  (.idx (.x 6) (i6 3), u1 112),
  (.idx (.x 6) (i6 4), u1 112),
  (.idx (.x 6) (i6 5), .x 7),
  (.bin .geq (.x 7) (u1 97), .b false)]
theorem run61 : okB (call (tbl hy61) 9000 7 [.x 0, .x 1, .x 2] ⟨H0 , 7, 0, 0⟩) = true := by kernel_rfl
def nu61 (n pos chr : Int) : List Value := [.int .u8 (n),
  .int .u8 (pos),
  .int .u8 (chr),
  .int .i64 (pos),
  St' ([u8 46, u8 112, u8 112, u8 112, u8 112, u8 112, u8 (chr)]),
  St' ([u8 46]),
  St' ([u8 112, u8 112, u8 112, u8 112, u8 112, u8 (chr)]),
  .int .u8 (chr)]
theorem path61 (n pos chr : Int) (bb : BB n pos chr) (h0 : n % 11 = 6) (h1 : pos % 6 = 5) (h2 : ¬ (97 ≤ chr)) (w : World) (hl : laidE w) : Cw #[.int .u8 n, .int .u8 pos, .int .u8 chr] w := by
  obtain ⟨fi, hfi, hb⟩ := fiE
  refine runP (tb := tbl hy61) ((tabkOk (nuL (nu61 n pos chr)) (nuL_one (l := nu61 n pos chr) rfl)).hyps ?_) rfl hfi hb (run61 ) (args := [.int .u8 n, .int .u8 pos, .int .u8 chr]) (by simp only [RelL, Rel]; exact ⟨_, _, rfl, rfl, ⟨_, _, rfl, rfl, ⟨_, _, rfl, rfl, rfl⟩⟩⟩) w hl
  obtain ⟨b0, b1, b2, b3, b4, b5⟩ := bb
  unfold hy61
  refine hcons (kRem (isX rfl) (isZ (m := 11) rfl) (denZ (m := 6) rfl) (by omega) (by omega) (by omega)) ?_
  refine hcons (kConvF (isX rfl) tu3 (denX rfl) (fI64 (by omega) (by omega))) ?_
  refine hcons (kRem (isX rfl) (isZ (m := 6) rfl) (denZ (m := 5) rfl) (by omega) (by omega) (by omega)) ?_
  refine hcons (kGe (isX rfl) (isZ (m := 97) rfl) (decide_eq_false (by omega))) ?_
  refine hcons (kBytesB (bs := [u8 46, u8 112, u8 112, u8 112, u8 112, u8 112, u8 (chr)]) (bC (by omega) (bC (by omega) (bC (by omega) (bC (by omega) (bC (by omega) (bC (by omega) (.cons (isB8 (isX rfl) (by omega) (by omega)) .nil))))))) (denX rfl)) ?_
  refine hcons (kLenE (isX rfl) (denZ (m := 7) rfl) rfl) ?_
  refine hcons (kMid (P := 0) (Q := 1) (isX rfl) (.inl ⟨rfl, rfl⟩) (.inr ⟨_, _, rfl, (isZ (m := 1) rfl)⟩) (by omega) (by omega) (by simp) (denX rfl)) ?_
  refine hcons (kEqS (isX rfl) (isSx (l := [u8 46]) 1 46 rfl) (decide_eq_true rfl)) ?_
  refine hcons (kMid (P := 1) (Q := 7) (isX rfl) (.inr ⟨_, _, rfl, (isZ (m := 1) rfl)⟩) (.inl ⟨rfl, rfl⟩) (by omega) (by omega) (by simp) (denX rfl)) ?_
  refine hcons (kLenE (isX rfl) (denZ (m := 6) rfl) rfl) ?_
  refine hcons (kIdxC (isX rfl) (by simp) rfl (by omega)) ?_
  refine hcons (kIdxC (isX rfl) (by simp) rfl (by omega)) ?_
  refine hcons (kIdxC (isX rfl) (by simp) rfl (by omega)) ?_
  refine hcons (kIdxC (isX rfl) (by simp) rfl (by omega)) ?_
  refine hcons (kIdxC (isX rfl) (by simp) rfl (by omega)) ?_
  refine hcons (kIdxE (i := 5) (isX rfl) (isZ (m := 5) rfl) (denX rfl) rfl (by simp) (bt_at rfl (by omega) (by omega))) ?_
  refine hcons (kGe (isX rfl) (isZ (m := 97) rfl) (decide_eq_false (by omega))) ?_
  exact hnil
def hy62 : List (HK × AV) := [(.bin .rem (.x 0) (u1 11), u1 6),
  (.conv 3 (.x 1), .x 3),
  (.bin .rem (.x 3) (i6 6), i6 5),
  (.bin .geq (.x 2) (u1 97), .b true),
  (.bin .leq (.x 2) (u1 122), .b true),
  (.bytes [u1 46, u1 112, u1 112, u1 112, u1 112, u1 112, .x 2], .x 4),
  (.len (.x 4), i6 7),
  (.sub (.x 4) none (some (i6 1)), .x 5),
  (.bin .eql (.x 5) (.s 1 46), .b true),
  (.sub (.x 4) (some (i6 1)) none, .x 6),
  (.len (.x 6), i6 6),
  (.idx (.x 6) (i6 0), u1 112),
  (.idx (.x 6) (i6 1), u1 112),
  (.idx (.x 6) (i6 2), u1 112),
  (.idx (.x 6) (i6 3), u1 112),
  (.idx (.x 6) (i6 4), u1 112),
  (.idx (.x 6) (i6 5), .x 7),
  (.bin .geq (.x 7) (u1 97), .b true),
  (.bin .leq (.x 7) (u1 122), .b true),
  (.bin .neq (.x 6) (.s 0 0), .b true)]
theorem run62 : okB (call (tbl hy62) 9000 7 [.x 0, .x 1, .x 2] ⟨H0 , 7, 0, 0⟩) = true := by kernel_rfl
def nu62 (n pos chr : Int) : List Value := [.int .u8 (n),
  .int .u8 (pos),
  .int .u8 (chr),
  .int .i64 (pos),
  St' ([u8 46, u8 112, u8 112, u8 112, u8 112, u8 112, u8 (chr)]),
  St' ([u8 46]),
  St' ([u8 112, u8 112, u8 112, u8 112, u8 112, u8 (chr)]),
  .int .u8 (chr)]
theorem path62 (n pos chr : Int) (bb : BB n pos chr) (h0 : n % 11 = 6) (h1 : pos % 6 = 5) (h2 : 97 ≤ chr) (h3 : chr ≤ 122) (w : World) (hl : laidE w) : Cw #[.int .u8 n, .int .u8 pos, .int .u8 chr] w := by
  obtain ⟨fi, hfi, hb⟩ := fiE
  refine runP (tb := tbl hy62) ((tabkOk (nuL (nu62 n pos chr)) (nuL_one (l := nu62 n pos chr) rfl)).hyps ?_) rfl hfi hb (run62 ) (args := [.int .u8 n, .int .u8 pos, .int .u8 chr]) (by simp only [RelL, Rel]; exact ⟨_, _, rfl, rfl, ⟨_, _, rfl, rfl, ⟨_, _, rfl, rfl, rfl⟩⟩⟩) w hl
  obtain ⟨b0, b1, b2, b3, b4, b5⟩ := bb
  unfold hy62
  refine hcons (kRem (isX rfl) (isZ (m := 11) rfl) (denZ (m := 6) rfl) (by omega) (by omega) (by omega)) ?_
  refine hcons (kConvF (isX rfl) tu3 (denX rfl) (fI64 (by omega) (by omega))) ?_
  refine hcons (kRem (isX rfl) (isZ (m := 6) rfl) (denZ (m := 5) rfl) (by omega) (by omega) (by omega)) ?_
  refine hcons (kGe (isX rfl) (isZ (m := 97) rfl) (decide_eq_true (by omega))) ?_
  refine hcons (kLe (isX rfl) (isZ (m := 122) rfl) (decide_eq_true (by omega))) ?_
  refine hcons (kBytesB (bs := [u8 46, u8 112, u8 112, u8 112, u8 112, u8 112, u8 (chr)]) (bC (by omega) (bC (by omega) (bC (by omega) (bC (by omega) (bC (by omega) (bC (by omega) (.cons (isB8 (isX rfl) (by omega) (by omega)) .nil))))))) (denX rfl)) ?_
  refine hcons (kLenE (isX rfl) (denZ (m := 7) rfl) rfl) ?_
  refine hcons (kMid (P := 0) (Q := 1) (isX rfl) (.inl ⟨rfl, rfl⟩) (.inr ⟨_, _, rfl, (isZ (m := 1) rfl)⟩) (by omega) (by omega) (by simp) (denX rfl)) ?_
  refine hcons (kEqS (isX rfl) (isSx (l := [u8 46]) 1 46 rfl) (decide_eq_true rfl)) ?_
  refine hcons (kMid (P := 1) (Q := 7) (isX rfl) (.inr ⟨_, _, rfl, (isZ (m := 1) rfl)⟩) (.inl ⟨rfl, rfl⟩) (by omega) (by omega) (by simp) (denX rfl)) ?_
  refine hcons (kLenE (isX rfl) (denZ (m := 6) rfl) rfl) ?_
  refine hcons (kIdxC (isX rfl) (by simp) rfl (by omega)) ?_
  refine hcons (kIdxC (isX rfl) (by simp) rfl (by omega)) ?_
  refine hcons (kIdxC (isX rfl) (by simp) rfl (by omega)) ?_
  refine hcons (kIdxC (isX rfl) (by simp) rfl (by omega)) ?_
  refine hcons (kIdxC (isX rfl) (by simp) rfl (by omega)) ?_
  refine hcons (kIdxE (i := 5) (isX rfl) (isZ (m := 5) rfl) (denX rfl) rfl (by simp) (bt_at rfl (by omega) (by omega))) ?_
  refine hcons (kGe (isX rfl) (isZ (m := 97) rfl) (decide_eq_true (by omega))) ?_
  refine hcons (kLe (isX rfl) (isZ (m := 122) rfl) (decide_eq_true (by omega))) ?_
  refine hcons (kNeS (isX rfl) (isSx (l := ([] : List UInt8)) 0 0 rfl) (bnT (by first | exact nilT (by first | omega | (simp only [List.length_append, List.length_cons, List.length_nil, List.length_take, List.length_drop, List.length_replicate, Int.natCast_add] at * <;> omega)) | exact nilF (by first | omega | (simp only [List.length_append, List.length_cons, List.length_nil, List.length_take, List.length_drop, List.length_replicate, Int.natCast_add] at * <;> omega)) | exact nilT' (by first | omega | (simp only [List.length_append, List.length_cons, List.length_nil, List.length_take, List.length_drop, List.length_replicate, Int.natCast_add] at * <;> omega)) | exact nilF' (by first | omega | (simp only [List.length_append, List.length_cons, List.length_nil, List.length_take, List.length_drop, List.length_replicate, Int.natCast_add] at * <;> omega))))) ?_
  exact hnil
def hy63 : List (HK × AV) := [(.bin .rem (.x 0) (u1 11), u1 6),
  (.conv 3 (.x 1), .x 3),
  (.bin .rem (.x 3) (i6 6), i6 5),
  (.bin .geq (.x 2) (u1 97), .b true),
  (.bin .leq (.x 2) (u1 122), .b false),
  (.bytes [u1 46, u1 112, u1 112, u1 112, u1 112, u1 112, .x 2], .x 4),
  (.len (.x 4), i6 7),
  (.sub (.x 4) none (some (i6 1)), .x 5),
  (.bin .eql (.x 5) (.s 1 46), .b true),
  (.sub (.x 4) (some (i6 1)) none, .x 6),
  (.len (.x 6), i6 6),
  (.idx (.x 6) (i6 0), u1 112),
  (.idx (.x 6) (i6 1), u1 112),
  (.idx (.x 6) (i6 2), u1 112),
  (.idx (.x 6) (i6 3), u1 112),
  (.idx (.x 6) (i6 4), u1 112),
  (.idx (.x 6) (i6 5), .x 7),
  (.bin .geq (.x 7) (u1 97), .b true),
  (.bin .leq (.x 7) (u1 122), .b false)]
theorem run63 : okB (call (tbl hy63) 9000 7 [.x 0, .x 1, .x 2] ⟨H0 , 7, 0, 0⟩) = true := by kernel_rfl
def nu63 (n pos chr : Int) : List Value := [.int .u8 (n),
  .int .u8 (pos),
  .int .u8 (chr),
  .int .i64 (pos),
  St' ([u8 46, u8 112, u8 112, u8 112, u8 112, u8 112, u8 (chr)]),
  St' ([u8 46]),
  St' ([u8 112, u8 112, u8 112, u8 112, u8 112, u8 (chr)]),
  .int .u8 (chr)]
theorem path63 (n pos chr : Int) (bb : BB n pos chr) (h0 : n % 11 = 6) (h1 : pos % 6 = 5) (h2 : 97 ≤ chr) (h3 : ¬ (chr ≤ 122)) (w : World) (hl : laidE w) : Cw #[.int .u8 n, .int .u8 pos, .int .u8 chr] w := by
  obtain ⟨fi, hfi, hb⟩ := fiE
  refine runP (tb := tbl hy63) ((tabkOk (nuL (nu63 n pos chr)) (nuL_one (l := nu63 n pos chr) rfl)).hyps ?_) rfl hfi hb (run63 ) (args := [.int .u8 n, .int .u8 pos, .int .u8 chr]) (by simp only [RelL, Rel]; exact ⟨_, _, rfl, rfl, ⟨_, _, rfl, rfl, ⟨_, _, rfl, rfl, rfl⟩⟩⟩) w hl
  obtain ⟨b0, b1, b2, b3, b4, b5⟩ := bb
  unfold hy63
  refine hcons (kRem (isX rfl) (isZ (m := 11) rfl) (denZ (m := 6) rfl) (by omega) (by omega) (by omega)) ?_
  refine hcons (kConvF (isX rfl) tu3 (denX rfl) (fI64 (by omega) (by omega))) ?_
  refine hcons (kRem (isX rfl) (isZ (m := 6) rfl) (denZ (m := 5) rfl) (by omega) (by omega) (by omega)) ?_
  refine hcons (kGe (isX rfl) (isZ (m := 97) rfl) (decide_eq_true (by omega))) ?_
  refine hcons (kLe (isX rfl) (isZ (m := 122) rfl) (decide_eq_false (by omega))) ?_
  refine hcons (kBytesB (bs := [u8 46, u8 112, u8 112, u8 112, u8 112, u8 112, u8 (chr)]) (bC (by omega) (bC (by omega) (bC (by omega) (bC (by omega) (bC (by omega) (bC (by omega) (.cons (isB8 (isX rfl) (by omega) (by omega)) .nil))))))) (denX rfl)) ?_
  refine hcons (kLenE (isX rfl) (denZ (m := 7) rfl) rfl) ?_
  refine hcons (kMid (P := 0) (Q := 1) (isX rfl) (.inl ⟨rfl, rfl⟩) (.inr ⟨_, _, rfl, (isZ (m := 1) rfl)⟩) (by omega) (by omega) (by simp) (denX rfl)) ?_
  refine hcons (kEqS (isX rfl) (isSx (l := [u8 46]) 1 46 rfl) (decide_eq_true rfl)) ?_
  refine hcons (kMid (P := 1) (Q := 7) (isX rfl) (.inr ⟨_, _, rfl, (isZ (m := 1) rfl)⟩) (.inl ⟨rfl, rfl⟩) (by omega) (by omega) (by simp) (denX rfl)) ?_
  refine hcons (kLenE (isX rfl) (denZ (m := 6) rfl) rfl) ?_
  refine hcons (kIdxC (isX rfl) (by simp) rfl (by omega)) ?_
  refine hcons (kIdxC (isX rfl) (by simp) rfl (by omega)) ?_
  refine hcons (kIdxC (isX rfl) (by simp) rfl (by omega)) ?_
  refine hcons (kIdxC (isX rfl) (by simp) rfl (by omega)) ?_
  refine hcons (kIdxC (isX rfl) (by simp) rfl (by omega)) ?_
  refine hcons (kIdxE (i := 5) (isX rfl) (isZ (m := 5) rfl) (denX rfl) rfl (by simp) (bt_at rfl (by omega) (by omega))) ?_
  refine hcons (kGe (isX rfl) (isZ (m := 97) rfl) (decide_eq_true (by omega))) ?_
  refine hcons (kLe (isX rfl) (isZ (m := 122) rfl) (decide_eq_false (by omega))) ?_
  exact hnil
def hy64 : List (HK × AV) := [(.bin .rem (.x 0) (u1 11), u1 7),
  (.conv 3 (.x 1), .x 3),
  (.bin .rem (.x 3) (i6 7), i6 0),
  (.bin .geq (.x 2) (u1 97), .b false),
  (.bytes [u1 46, .x 2, u1 112, u1 112, u1 112, u1 112, u1 112, u1 112], .x 4),
  (.len (.x 4), i6 8),
  (.sub (.x 4) none (some (i6 1)), .x 5),
  (.bin .eql (.x 5) (.s 1 46), .b true),
  (.sub (.x 4) (some (i6 1)) none, .x 6),
  (.len (.x 6), i6 7),
  (.idx (.x 6) (i6 0), .x 7),
  (.bin .geq (.x 7) (u1 97), .b false)]
theorem run64 : okB (call (tbl hy64) 9000 7 [.x 0, .x 1, .x 2] ⟨H0 , 7, 0, 0⟩) = true := by kernel_rfl
def nu64 (n pos chr : Int) : List Value := [.int .u8 (n),
  .int .u8 (pos),
  .int .u8 (chr),
  .int .i64 (pos),
  St' ([u8 46, u8 (chr), u8 112, u8 112, u8 112, u8 112, u8 112, u8 112]),
  St' ([u8 46]),
  St' ([u8 (chr), u8 112, u8 112, u8 112, u8 112, u8 112, u8 112]),
  .int .u8 (chr)]
theorem path64 (n pos chr : Int) (bb : BB n pos chr) (h0 : n % 11 = 7) (h1 : pos % 7 = 0) (h2 : ¬ (97 ≤ chr)) (w : World) (hl : laidE w) : Cw #[.int .u8 n, .int .u8 pos, .int .u8 chr] w := by
  obtain ⟨fi, hfi, hb⟩ := fiE
  refine runP (tb := tbl hy64) ((tabkOk (nuL (nu64 n pos chr)) (nuL_one (l := nu64 n pos chr) rfl)).hyps ?_) rfl hfi hb (run64 ) (args := [.int .u8 n, .int .u8 pos, .int .u8 chr]) (by simp only [RelL, Rel]; exact ⟨_, _, rfl, rfl, ⟨_, _, rfl, rfl, ⟨_, _, rfl, rfl, rfl⟩⟩⟩) w hl
  obtain ⟨b0, b1, b2, b3, b4, b5⟩ := bb
  unfold hy64
  refine hcons (kRem (isX rfl) (isZ (m := 11) rfl) (denZ (m := 7) rfl) (by omega) (by omega) (by omega)) ?_
  refine hcons (kConvF (isX rfl) tu3 (denX rfl) (fI64 (by omega) (by omega))) ?_
  refine hcons (kRem (isX rfl) (isZ (m := 7) rfl) (denZ (m := 0) rfl) (by omega) (by omega) (by omega)) ?_
  refine hcons (kGe (isX rfl) (isZ (m := 97) rfl) (decide_eq_false (by omega))) ?_
  refine hcons (kBytesB (bs := [u8 46, u8 (chr), u8 112, u8 112, u8 112, u8 112, u8 112, u8 112]) (bC (by omega) (.cons (isB8 (isX rfl) (by omega) (by omega)) (bC (by omega) (bC (by omega) (bC (by omega) (bC (by omega) (bC (by omega) (bC (by omega) .nil)))))))) (denX rfl)) ?_
  refine hcons (kLenE (isX rfl) (denZ (m := 8) rfl) rfl) ?_
  refine hcons (kMid (P := 0) (Q := 1) (isX rfl) (.inl ⟨rfl, rfl⟩) (.inr ⟨_, _, rfl, (isZ (m := 1) rfl)⟩) (by omega) (by omega) (by simp) (denX rfl)) ?_
  refine hcons (kEqS (isX rfl) (isSx (l := [u8 46]) 1 46 rfl) (decide_eq_true rfl)) ?_
  refine hcons (kMid (P := 1) (Q := 8) (isX rfl) (.inr ⟨_, _, rfl, (isZ (m := 1) rfl)⟩) (.inl ⟨rfl, rfl⟩) (by omega) (by omega) (by simp) (denX rfl)) ?_
  refine hcons (kLenE (isX rfl) (denZ (m := 7) rfl) rfl) ?_
  refine hcons (kIdxE (i := 0) (isX rfl) (isZ (m := 0) rfl) (denX rfl) rfl (by simp) (bt_at rfl (by omega) (by omega))) ?_
  refine hcons (kGe (isX rfl) (isZ (m := 97) rfl) (decide_eq_false (by omega))) ?_
  exact hnil
def hy65 : List (HK × AV) := [(.bin .rem (.x 0) (u1 11), u1 7),
  (.conv 3 (.x 1), .x 3),
  (.bin .rem (.x 3) (i6 7), i6 0),
  (.bin .geq (.x 2) (u1 97), .b true),
  (.bin .leq (.x 2) (u1 122), .b true),
  (.bytes [u1 46, .x 2, u1 112, u1 112, u1 112, u1 112, u1 112, u1 112], .x 4),
  (.len (.x 4), i6 8),
  (.sub (.x 4) none (some (i6 1)), .x 5),
  (.bin .eql (.x 5) (.s 1 46), .b true),
  (.sub (.x 4) (some (i6 1)) none, .x 6),
  (.len (.x 6), i6 7),
  (.idx (.x 6) (i6 0), .x 7),
  (.bin .geq (.x 7) (u1 97), .b true),
  (.bin .leq (.x 7) (u1 122), .b true),
  (.idx (.x 6) (i6 1), u1 112),
  (.idx (.x 6) (i6 2), u1 112),
  (.idx (.x 6) (i6 3), u1 112),
  (.idx (.x 6) (i6 4), u1 112),
  (.idx (.x 6) (i6 5), u1 112),
  (.idx (.x 6) (i6 6), u1 112),
  (.bin .neq (.x 6) (.s 0 0), .b true)]
theorem run65 : okB (call (tbl hy65) 9000 7 [.x 0, .x 1, .x 2] ⟨H0 , 7, 0, 0⟩) = true := by kernel_rfl
def nu65 (n pos chr : Int) : List Value := [.int .u8 (n),
  .int .u8 (pos),
  .int .u8 (chr),
  .int .i64 (pos),
  St' ([u8 46, u8 (chr), u8 112, u8 112, u8 112, u8 112, u8 112, u8 112]),
  St' ([u8 46]),
  St' ([u8 (chr), u8 112, u8 112, u8 112, u8 112, u8 112, u8 112]),
  .int .u8 (chr)]
theorem path65 (n pos chr : Int) (bb : BB n pos chr) (h0 : n % 11 = 7) (h1 : pos % 7 = 0) (h2 : 97 ≤ chr) (h3 : chr ≤ 122) (w : World) (hl : laidE w) : Cw #[.int .u8 n, .int .u8 pos, .int .u8 chr] w := by
  obtain ⟨fi, hfi, hb⟩ := fiE
  refine runP (tb := tbl hy65) ((tabkOk (nuL (nu65 n pos chr)) (nuL_one (l := nu65 n pos chr) rfl)).hyps ?_) rfl hfi hb (run65 ) (args := [.int .u8 n, .int .u8 pos, .int .u8 chr]) (by simp only [RelL, Rel]; exact ⟨_, _, rfl, rfl, ⟨_, _, rfl, rfl, ⟨_, _, rfl, rfl, rfl⟩⟩⟩) w hl
  obtain ⟨b0, b1, b2, b3, b4, b5⟩ := bb
  unfold hy65
  refine hcons (kRem (isX rfl) (isZ (m := 11) rfl) (denZ (m := 7) rfl) (by omega) (by omega) (by omega)) ?_
  refine hcons (kConvF (isX rfl) tu3 (denX rfl) (fI64 (by omega) (by omega))) ?_
  refine hcons (kRem (isX rfl) (isZ (m := 7) rfl) (denZ (m := 0) rfl) (by omega) (by omega) (by omega)) ?_
  refine hcons (kGe (isX rfl) (isZ (m := 97) rfl) (decide_eq_true (by omega))) ?_
  refine hcons (kLe (isX rfl) (isZ (m := 122) rfl) (decide_eq_true (by omega))) ?_
  refine hcons (kBytesB (bs := [u8 46, u8 (chr), u8 112, u8 112, u8 112, u8 112, u8 112, u8 112]) (bC (by omega) (.cons (isB8 (isX rfl) (by omega) (by omega)) (bC (by omega) (bC (by omega) (bC (by omega) (bC (by omega) (bC (by omega) (bC (by omega) .nil)))))))) (denX rfl)) ?_
  refine hcons (kLenE (isX rfl) (denZ (m := 8) rfl) rfl) ?_
  refine hcons (kMid (P := 0) (Q := 1) (isX rfl) (.inl ⟨rfl, rfl⟩) (.inr ⟨_, _, rfl, (isZ (m := 1) rfl)⟩) (by omega) (by omega) (by simp) (denX rfl)) ?_
  refine hcons (kEqS (isX rfl) (isSx (l := [u8 46]) 1 46 rfl) (decide_eq_true rfl)) ?_
  refine hcons (kMid (P := 1) (Q := 8) (isX rfl) (.inr ⟨_, _, rfl, (isZ (m := 1) rfl)⟩) (.inl ⟨rfl, rfl⟩) (by omega) (by omega) (by simp) (denX rfl)) ?_
  refine hcons (kLenE (isX rfl) (denZ (m := 7) rfl) rfl) ?_
  refine hcons (kIdxE (i := 0) (isX rfl) (isZ (m := 0) rfl) (denX rfl) rfl (by simp) (bt_at rfl (by omega) (by omega))) ?_
  refine hcons (kGe (isX rfl) (isZ (m := 97) rfl) (decide_eq_true (by omega))) ?_
  refine hcons (kLe (isX rfl) (isZ (m := 122) rfl) (decide_eq_true (by omega))) ?_
  refine hcons (kIdxC (isX rfl) (by simp) rfl (by omega)) ?_
  refine hcons (kIdxC (isX rfl) (by simp) rfl (by omega)) ?_
  refine hcons (kIdxC (isX rfl) (by simp) rfl (by omega)) ?_
  refine hcons (kIdxC (isX rfl) (by simp) rfl (by omega)) ?_
  refine hcons (kIdxC (isX rfl) (by simp) rfl (by omega)) ?_
  refine hcons (kIdxC (isX rfl) (by simp) rfl (by omega)) ?_
  refine hcons (kNeS (isX rfl) (isSx (l := ([] : List UInt8)) 0 0 rfl) (bnT (by first | exact nilT (by first | omega | (simp only [List.length_append, List.length_cons, List.length_nil, List.length_take, List.length_drop, List.length_replicate, Int.natCast_add] at * <;> omega)) | exact nilF (by first | omega | (simp only [List.length_append, List.length_cons, List.length_nil, List.length_take, List.length_drop, List.length_replicate, Int.natCast_add] at * <;> omega)) | exact nilT' (by first | omega | (simp only [List.length_append, List.length_cons, List.length_nil, List.length_take, List.length_drop, List.length_replicate, Int.natCast_add] at * <;> omega)) | exact nilF' (by first | omega | (simp only [List.length_append, List.length_cons, List.length_nil, List.length_take, List.length_drop, List.length_replicate, Int.natCast_add] at * <;> omega))))) ?_
  exact hnil
def hy66 : List (HK × AV) := [(.bin .rem (.x 0) (u1 11), u1 7),
  (.conv 3 (.x 1), .x 3),
  (.bin .rem (.x 3) (i6 7), i6 0),
  (.bin .geq (.x 2) (u1 97), .b true),
  (.bin .leq (.x 2) (u1 122), .b false),
  (.bytes [u1 46, .x 2, u1 112, u1 112, u1 112, u1 112, u1 112, u1 112], .x 4),
  (.len (.x 4), i6 8),
  (.sub (.x 4) none (some (i6 1)), .x 5),
  (.bin .eql (.x 5) (.s 1 46), .b true),
  (.sub (.x 4) (some (i6 1)) none, .x 6),
  (.len (.x 6), i6 7),
  (.idx (.x 6) (i6 0), .x 7),
  (.bin .geq (.x 7) (u1 97), .b true),
  (.bin .leq (.x 7) (u1 122), .b false)]
theorem run66 : okB (call (tbl hy66) 9000 7 [.x 0, .x 1, .x 2] ⟨H0 , 7, 0, 0⟩) = true := by kernel_rfl
def nu66 (n pos chr : Int) : List Value := [.int .u8 (n),
  .int .u8 (pos),
  .int .u8 (chr),
  .int .i64 (pos),
  St' ([u8 46, u8 (chr), u8 112, u8 112, u8 112, u8 112, u8 112, u8 112]),
  St' ([u8 46]),
  St' ([u8 (chr), u8 112, u8 112, u8 112, u8 112, u8 112, u8 112]),
  .int .u8 (chr)]
theorem path66 (n pos chr : Int) (bb : BB n pos chr) (h0 : n % 11 = 7) (h1 : pos % 7 = 0) (h2 : 97 ≤ chr) (h3 : ¬ (chr ≤ 122)) (w : World) (hl : laidE w) : Cw #[.int .u8 n, .int .u8 pos, .int .u8 chr] w := by
  obtain ⟨fi, hfi, hb⟩ := fiE
  refine runP (tb := tbl hy66) ((tabkOk (nuL (nu66 n pos chr)) (nuL_one (l := nu66 n pos chr) rfl)).hyps ?_) rfl hfi hb (run66 ) (args := [.int .u8 n, .int .u8 pos, .int .u8 chr]) (by simp only [RelL, Rel]; exact ⟨_, _, rfl, rfl, ⟨_, _, rfl, rfl, ⟨_, _, rfl, rfl, rfl⟩⟩⟩) w hl
  obtain ⟨b0, b1, b2, b3, b4, b5⟩ := bb
  unfold hy66
  refine hcons (kRem (isX rfl) (isZ (m := 11) rfl) (denZ (m := 7) rfl) (by omega) (by omega) (by omega)) ?_
  refine hcons (kConvF (isX rfl) tu3 (denX rfl) (fI64 (by omega) (by omega))) ?_
  refine hcons (kRem (isX rfl) (isZ (m := 7) rfl) (denZ (m := 0) rfl) (by omega) (by omega) (by omega)) ?_
  refine hcons (kGe (isX rfl) (isZ (m := 97) rfl) (decide_eq_true (by omega))) ?_
  refine hcons (kLe (isX rfl) (isZ (m := 122) rfl) (decide_eq_false (by omega))) ?_
  refine hcons (kBytesB (bs := [u8 46, u8 (chr), u8 112, u8 112, u8 112, u8 112, u8 112, u8 112]) (bC (by omega) (.cons (isB8 (isX rfl) (by omega) (by omega)) (bC (by omega) (bC (by omega) (bC (by omega) (bC (by omega) (bC (by omega) (bC (by omega) .nil)))))))) (denX rfl)) ?_
  refine hcons (kLenE (isX rfl) (denZ (m := 8) rfl) rfl) ?_
  refine hcons (kMid (P := 0) (Q := 1) (isX rfl) (.inl ⟨rfl, rfl⟩) (.inr ⟨_, _, rfl, (isZ (m := 1) rfl)⟩) (by omega) (by omega) (by simp) (denX rfl)) ?_
  refine hcons (kEqS (isX rfl) (isSx (l := [u8 46]) 1 46 rfl) (decide_eq_true rfl)) ?_
  refine hcons (kMid (P := 1) (Q := 8) (isX rfl) (.inr ⟨_, _, rfl, (isZ (m := 1) rfl)⟩) (.inl ⟨rfl, rfl⟩) (by omega) (by omega) (by simp) (denX rfl)) ?_
  refine hcons (kLenE (isX rfl) (denZ (m := 7) rfl) rfl) ?_
  refine hcons (kIdxE (i := 0) (isX rfl) (isZ (m := 0) rfl) (denX rfl) rfl (by simp) (bt_at rfl (by omega) (by omega))) ?_
  refine hcons (kGe (isX rfl) (isZ (m := 97) rfl) (decide_eq_true (by omega))) ?_
  refine hcons (kLe (isX rfl) (isZ (m := 122) rfl) (decide_eq_false (by omega))) ?_
  exact hnil
def hy67 : List (HK × AV) := [(.bin .rem (.x 0) (u1 11), u1 7),
  (.conv 3 (.x 1), .x 3),
  (.bin .rem (.x 3) (i6 7), i6 1),
  (.bin .geq (.x 2) (u1 97), .b false),
  (.bytes [u1 46, u1 112, .x 2, u1 112, u1 112, u1 112, u1 112, u1 112], .x 4),
  (.len (.x 4), i6 8),
  (.sub (.x 4) none (some (i6 1)), .x 5),
  (.bin .eql (.x 5) (.s 1 46), .b true),
  (.sub (.x 4) (some (i6 1)) none, .x 6),
  (.len (.x 6), i6 7),
  (.idx (.x 6) (i6 0), u1 112),
  (.idx (.x 6) (i6 1), .x 7),
  (.bin .geq (.x 7) (u1 97), .b false)]
theorem run67 : okB (call (tbl hy67) 9000 7 [.x 0, .x 1, .x 2] ⟨H0 , 7, 0, 0⟩) = true := by kernel_rfl
def nu67 (n pos chr : Int) : List Value := [.int .u8 (n),
  .int .u8 (pos),
  .int .u8 (chr),
  .int .i64 (pos),
  St' ([u8 46, u8 112, u8 (chr), u8 112, u8 112, u8 112, u8 112, u8 112]),
  St' ([u8 46]),
  St' ([u8 112, u8 (chr), u8 112, u8 112, u8 112, u8 112, u8 112]),
  .int .u8 (chr)]
theorem path67 (n pos chr : Int) (bb : BB n pos chr) (h0 : n % 11 = 7) (h1 : pos % 7 = 1) (h2 : ¬ (97 ≤ chr)) (w : World) (hl : laidE w) : Cw #[.int .u8 n, .int .u8 pos, .int .u8 chr] w := by
  obtain ⟨fi, hfi, hb⟩ := fiE
  refine runP (tb := tbl hy67) ((tabkOk (nuL (nu67 n pos chr)) (nuL_one (l := nu67 n pos chr) rfl)).hyps ?_) rfl hfi hb (run67 ) (args := [.int .u8 n, .int .u8 pos, .int .u8 chr]) (by simp only [RelL, Rel]; exact ⟨_, _, rfl, rfl, ⟨_, _, rfl, rfl, ⟨_, _, rfl, rfl, rfl⟩⟩⟩) w hl
  obtain ⟨b0, b1, b2, b3, b4, b5⟩ := bb
  unfold hy67
  refine hcons (kRem (isX rfl) (isZ (m := 11) rfl) (denZ (m := 7) rfl) (by omega) (by omega) (by omega)) ?_
  refine hcons (kConvF (isX rfl) tu3 (denX rfl) (fI64 (by omega) (by omega))) ?_
  refine hcons (kRem (isX rfl) (isZ (m := 7) rfl) (denZ (m := 1) rfl) (by omega) (by omega) (by omega)) ?_
  refine hcons (kGe (isX rfl) (isZ (m := 97) rfl) (decide_eq_false (by omega))) ?_
  refine hcons (kBytesB (bs := [u8 46, u8 112, u8 (chr), u8 112, u8 112, u8 112, u8 112, u8 112]) (bC (by omega) (bC (by omega) (.cons (isB8 (isX rfl) (by omega) (by omega)) (bC (by omega) (bC (by omega) (bC (by omega) (bC (by omega) (bC (by omega) .nil)))))))) (denX rfl)) ?_
  refine hcons (kLenE (isX rfl) (denZ (m := 8) rfl) rfl) ?_
  refine hcons (kMid (P := 0) (Q := 1) (isX rfl) (.inl ⟨rfl, rfl⟩) (.inr ⟨_, _, rfl, (isZ (m := 1) rfl)⟩) (by omega) (by omega) (by simp) (denX rfl)) ?_
  refine hcons (kEqS (isX rfl) (isSx (l := [u8 46]) 1 46 rfl) (decide_eq_true rfl)) ?_
  refine hcons (kMid (P := 1) (Q := 8) (isX rfl) (.inr ⟨_, _, rfl, (isZ (m := 1) rfl)⟩) (.inl ⟨rfl, rfl⟩) (by omega) (by omega) (by simp) (denX rfl)) ?_
  refine hcons (kLenE (isX rfl) (denZ (m := 7) rfl) rfl) ?_
  refine hcons (kIdxC (isX rfl) (by simp) rfl (by omega)) ?_
  refine hcons (kIdxE (i := 1) (isX rfl) (isZ (m := 1) rfl) (denX rfl) rfl (by simp) (bt_at rfl (by omega) (by omega))) ?_
  refine hcons (kGe (isX rfl) (isZ (m := 97) rfl) (decide_eq_false (by omega))) ?_
  exact hnil
def hy68 : List (HK × AV) := [(.bin .rem (.x 0) (u1 11), u1 7),
  (.conv 3 (.x 1), .x 3),
  (.bin .rem (.x 3) (i6 7), i6 1),
  (.bin .geq (.x 2) (u1 97), .b true),
  (.bin .leq (.x 2) (u1 122), .b true),
  (.bytes [u1 46, u1 112, .x 2, u1 112, u1 112, u1 112, u1 112, u1 112], .x 4),
  (.len (.x 4), i6 8),
  (.sub (.x 4) none (some (i6 1)), .x 5),
  (.bin .eql (.x 5) (.s 1 46), .b true),
  (.sub (.x 4) (some (i6 1)) none, .x 6),
  (.len (.x 6), i6 7),
  (.idx (.x 6) (i6 0), u1 112),
  (.idx (.x 6) (i6 1), .x 7),
  (.bin .geq (.x 7) (u1 97), .b true),
  (.bin .leq (.x 7) (u1 122), .b true),
  (.idx (.x 6) (i6 2), u1 112),
  (.idx (.x 6) (i6 3), u1 112),
  (.idx (.x 6) (i6 4), u1 112),
  (.idx (.x 6) (i6 5), u1 112),
  (.idx (.x 6) (i6 6), u1 112),
  (.bin .neq (.x 6) (.s 0 0), .b true)]
theorem run68 : okB (call (tbl hy68) 9000 7 [.x 0, .x 1, .x 2] ⟨H0 , 7, 0, 0⟩) = true := by kernel_rfl
def nu68 (n pos chr : Int) : List Value := [.int .u8 (n),
  .int .u8 (pos),
  .int .u8 (chr),
  .int .i64 (pos),
  St' ([u8 46, u8 112, u8 (chr), u8 112, u8 112, u8 112, u8 112, u8 112]),
  St' ([u8 46]),
  St' ([u8 112, u8 (chr), u8 112, u8 112, u8 112, u8 112, u8 112]),
  .int .u8 (chr)]
theorem path68 (n pos chr : Int) (bb : BB n pos chr) (h0 : n % 11 = 7) (h1 : pos % 7 = 1) (h2 : 97 ≤ chr) (h3 : chr ≤ 122) (w : World) (hl : laidE w) : Cw #[.int .u8 n, .int .u8 pos, .int .u8 chr] w := by
  obtain ⟨fi, hfi, hb⟩ := fiE
  refine runP (tb := tbl hy68) ((tabkOk (nuL (nu68 n pos chr)) (nuL_one (l := nu68 n pos chr) rfl)).hyps ?_) rfl hfi hb (run68 ) (args := [.int .u8 n, .int .u8 pos, .int .u8 chr]) (by simp only [RelL, Rel]; exact ⟨_, _, rfl, rfl, ⟨_, _, rfl, rfl, ⟨_, _, rfl, rfl, rfl⟩⟩⟩) w hl
  obtain ⟨b0, b1, b2, b3, b4, b5⟩ := bb
  unfold hy68
  refine hcons (kRem (isX rfl) (isZ (m := 11) rfl) (denZ (m := 7) rfl) (by omega) (by omega) (by omega)) ?_
  refine hcons (kConvF (isX rfl) tu3 (denX rfl) (fI64 (by omega) (by omega))) ?_
  refine hcons (kRem (isX rfl) (isZ (m := 7) rfl) (denZ (m := 1) rfl) (by omega) (by omega) (by omega)) ?_
  refine hcons (kGe (isX rfl) (isZ (m := 97) rfl) (decide_eq_true (by omega))) ?_
  refine hcons (kLe (isX rfl) (isZ (m := 122) rfl) (decide_eq_true (by omega))) ?_
  refine hcons (kBytesB (bs := [u8 46, u8 112, u8 (chr), u8 112, u8 112, u8 112, u8 112, u8 112]) (bC (by omega) (bC (by omega) (.cons (isB8 (isX rfl) (by omega) (by omega)) (bC (by omega) (bC (by omega) (bC (by omega) (bC (by omega) (bC (by omega) .nil)))))))) (denX rfl)) ?_
  refine hcons (kLenE (isX rfl) (denZ (m := 8) rfl) rfl) ?_
  refine hcons (kMid (P := 0) (Q := 1) (isX rfl) (.inl ⟨rfl, rfl⟩) (.inr ⟨_, _, rfl, (isZ (m := 1) rfl)⟩) (by omega) (by omega) (by simp) (denX rfl)) ?_
  refine hcons (kEqS (isX rfl) (isSx (l := [u8 46]) 1 46 rfl) (decide_eq_true rfl)) ?_
  refine hcons (kMid (P := 1) (Q := 8) (isX rfl) (.inr ⟨_, _, rfl, (isZ (m := 1) rfl)⟩) (.inl ⟨rfl, rfl⟩) (by omega) (by omega) (by simp) (denX rfl)) ?_
  refine hcons (kLenE (isX rfl) (denZ (m := 7) rfl) rfl) ?_
  refine hcons (kIdxC (isX rfl) (by simp) rfl (by omega)) ?_
  refine hcons (kIdxE (i := 1) (isX rfl) (isZ (m := 1) rfl) (denX rfl) rfl (by simp) (bt_at rfl (by omega) (by omega))) ?_
  refine hcons (kGe (isX rfl) (isZ (m := 97) rfl) (decide_eq_true (by omega))) ?_
  refine hcons (kLe (isX rfl) (isZ (m := 122) rfl) (decide_eq_true (by omega))) ?_
  refine hcons (kIdxC (isX rfl) (by simp) rfl (by omega)) ?_
  refine hcons (kIdxC (isX rfl) (by simp) rfl (by omega)) ?_
  refine hcons (kIdxC (isX rfl) (by simp) rfl (by omega)) ?_
  refine hcons (kIdxC (isX rfl) (by simp) rfl (by omega)) ?_
  refine hcons (kIdxC (isX rfl) (by simp) rfl (by omega)) ?_
  refine hcons (kNeS (isX rfl) (isSx (l := ([] : List UInt8)) 0 0 rfl) (bnT (by first | exact nilT (by first | omega | (simp only [List.length_append, List.length_cons, List.length_nil, List.length_take, List.length_drop, List.length_replicate, Int.natCast_add] at * <;> omega)) | exact nilF (by first | omega | (simp only [List.length_append, List.length_cons, List.length_nil, List.length_take, List.length_drop, List.length_replicate, Int.natCast_add] at * <;> omega)) | exact nilT' (by first | omega | (simp only [List.length_append, List.length_cons, List.length_nil, List.length_take, List.length_drop, List.length_replicate, Int.natCast_add] at * <;> omega)) | exact nilF' (by first | omega | (simp only [List.length_append, List.length_cons, List.length_nil, List.length_take, List.length_drop, List.length_replicate, Int.natCast_add] at * <;> omega))))) ?_
  exact hnil
def hy69 : List (HK × AV) := [(.bin .rem (.x 0) (u1 11), u1 7),
  (.conv 3 (.x 1), .x 3),
  (.bin .rem (.x 3) (i6 7), i6 1),
  (.bin .geq (.x 2) (u1 97), .b true),
  (.bin .leq (.x 2) (u1 122), .b false),
  (.bytes [u1 46, u1 112, .x 2, u1 112, u1 112, u1 112, u1 112, u1 112], .x 4),
  (.len (.x 4), i6 8),
  (.sub (.x 4) none (some (i6 1)), .x 5),
  (.bin .eql (.x 5) (.s 1 46), .b true),
  (.sub (.x 4) (some (i6 1)) none, .x 6),
  (.len (.x 6), i6 7),
  (.idx (.x 6) (i6 0), u1 112),
  (.idx (.x 6) (i6 1), .x 7),
  (.bin .geq (.x 7) (u1 97), .b true),
  (.bin .leq (.x 7) (u1 122), .b false)]
theorem run69 : okB (call (tbl hy69) 9000 7 [.x 0, .x 1, .x 2] ⟨H0 , 7, 0, 0⟩) = true := by kernel_rfl
def nu69 (n pos chr : Int) : List Value := [.int .u8 (n),
  .int .u8 (pos),
  .int .u8 (chr),
  .int .i64 (pos),
  St' ([u8 46, u8 112, u8 (chr), u8 112, u8 112, u8 112, u8 112, u8 112]),
  St' ([u8 46]),
  St' ([u8 112, u8 (chr), u8 112, u8 112, u8 112, u8 112, u8 112]),
  .int .u8 (chr)]
theorem path69 (n pos chr : Int) (bb : BB n pos chr) (h0 : n % 11 = 7) (h1 : pos % 7 = 1) (h2 : 97 ≤ chr) (h3 : ¬ (chr ≤ 122)) (w : World) (hl : laidE w) : Cw #[.int .u8 n, .int .u8 pos, .int .u8 chr] w := by
  obtain ⟨fi, hfi, hb⟩ := fiE
  refine runP (tb := tbl hy69) ((tabkOk (nuL (nu69 n pos chr)) (nuL_one (l := nu69 n pos chr) rfl)).hyps ?_) rfl hfi hb (run69 ) (args := [.int .u8 n, .int .u8 pos, .int .u8 chr]) (by simp only [RelL, Rel]; exact ⟨_, _, rfl, rfl, ⟨_, _, rfl, rfl, ⟨_, _, rfl, rfl, rfl⟩⟩⟩) w hl
  obtain ⟨b0, b1, b2, b3, b4, b5⟩ := bb
  unfold hy69
  refine hcons (kRem (isX rfl) (isZ (m := 11) rfl) (denZ (m := 7) rfl) (by omega) (by omega) (by omega)) ?_
  refine hcons (kConvF (isX rfl) tu3 (denX rfl) (fI64 (by omega) (by omega))) ?_
  refine hcons (kRem (isX rfl) (isZ (m := 7) rfl) (denZ (m := 1) rfl) (by omega) (by omega) (by omega)) ?_
  refine hcons (kGe (isX rfl) (isZ (m := 97) rfl) (decide_eq_true (by omega))) ?_
  refine hcons (kLe (isX rfl) (isZ (m := 122) rfl) (decide_eq_false (by omega))) ?_
  refine hcons (kBytesB (bs := [u8 46, u8 112, u8 (chr), u8 112, u8 112, u8 112, u8 112, u8 112]) (bC (by omega) (bC (by omega) (.cons (isB8 (isX rfl) (by omega) (by omega)) (bC (by omega) (bC (by omega) (bC (by omega) (bC (by omega) (bC (by omega) .nil)))))))) (denX rfl)) ?_
  refine hcons (kLenE (isX rfl) (denZ (m := 8) rfl) rfl) ?_
  refine hcons (kMid (P := 0) (Q := 1) (isX rfl) (.inl ⟨rfl, rfl⟩) (.inr ⟨_, _, rfl, (isZ (m := 1) rfl)⟩) (by omega) (by omega) (by simp) (denX rfl)) ?_
  refine hcons (kEqS (isX rfl) (isSx (l := [u8 46]) 1 46 rfl) (decide_eq_true rfl)) ?_
  refine hcons (kMid (P := 1) (Q := 8) (isX rfl) (.inr ⟨_, _, rfl, (isZ (m := 1) rfl)⟩) (.inl ⟨rfl, rfl⟩) (by omega) (by omega) (by simp) (denX rfl)) ?_
  refine hcons (kLenE (isX rfl) (denZ (m := 7) rfl) rfl) ?_
  refine hcons (kIdxC (isX rfl) (by simp) rfl (by omega)) ?_
  refine hcons (kIdxE (i := 1) (isX rfl) (isZ (m := 1) rfl) (denX rfl) rfl (by simp) (bt_at rfl (by omega) (by omega))) ?_
  refine hcons (kGe (isX rfl) (isZ (m := 97) rfl) (decide_eq_true (by omega))) ?_
  refine hcons (kLe (isX rfl) (isZ (m := 122) rfl) (decide_eq_false (by omega))) ?_
  exact hnil
def hy70 : List (HK × AV) := [(.bin .rem (.x 0) (u1 11), u1 7),
  (.conv 3 (.x 1), .x 3),
  (.bin .rem (.x 3) (i6 7), i6 2),
  (.bin .geq (.x 2) (u1 97), .b false),
  (.bytes [u1 46, u1 112, u1 112, .x 2, u1 112, u1 112, u1 112, u1 112], .x 4),
  (.len (.x 4), i6 8),
  (.sub (.x 4) none (some (i6 1)), .x 5),
  (.bin .eql (.x 5) (.s 1 46), .b true),
  (.sub (.x 4) (some (i6 1)) none, .x 6),
  (.len (.x 6), i6 7),
  (.idx (.x 6) (i6 0), u1 112),
  (.idx (.x 6) (i6 1), u1 112),
  (.idx (.x 6) (i6 2), .x 7),
  (.bin .geq (.x 7) (u1 97), .b false)]
theorem run70 : okB (call (tbl hy70) 9000 7 [.x 0, .x 1, .x 2] ⟨H0 , 7, 0, 0⟩) = true := by kernel_rfl
def nu70 (n pos chr : Int) : List Value := [.int .u8 (n),
  .int .u8 (pos),
  .int .u8 (chr),
  .int .i64 (pos),
  St' ([u8 46, u8 112, u8 112, u8 (chr), u8 112, u8 112, u8 112, u8 112]),
  St' ([u8 46]),
  St' ([u8 112, u8 112, u8 (chr), u8 112, u8 112, u8 112, u8 112]),
  .int .u8 (chr)]
theorem path70 (n pos chr : Int) (bb : BB n pos chr) (h0 : n % 11 = 7) (h1 : pos % 7 = 2) (h2 : ¬ (97 ≤ chr)) (w : World) (hl : laidE w) : Cw #[.int .u8 n, .int .u8 pos, .int .u8 chr] w := by
  obtain ⟨fi, hfi, hb⟩ := fiE
  refine runP (tb := tbl hy70) ((tabkOk (nuL (nu70 n pos chr)) (nuL_one (l := nu70 n pos chr) rfl)).hyps ?_) rfl hfi hb (run70 ) (args := [.int .u8 n, .int .u8 pos, .int .u8 chr]) (by simp only [RelL, Rel]; exact ⟨_, _, rfl, rfl, ⟨_, _, rfl, rfl, ⟨_, _, rfl, rfl, rfl⟩⟩⟩) w hl
  obtain ⟨b0, b1, b2, b3, b4, b5⟩ := bb
  unfold hy70
  refine hcons (kRem (isX rfl) (isZ (m := 11) rfl) (denZ (m := 7) rfl) (by omega) (by omega) (by omega)) ?_
  refine hcons (kConvF (isX rfl) tu3 (denX rfl) (fI64 (by omega) (by omega))) ?_
  refine hcons (kRem (isX rfl) (isZ (m := 7) rfl) (denZ (m := 2) rfl) (by omega) (by omega) (by omega)) ?_
  refine hcons (kGe (isX rfl) (isZ (m := 97) rfl) (decide_eq_false (by omega))) ?_
  refine hcons (kBytesB (bs := [u8 46, u8 112, u8 112, u8 (chr), u8 112, u8 112, u8 112, u8 112]) (bC (by omega) (bC (by omega) (bC (by omega) (.cons (isB8 (isX rfl) (by omega) (by omega)) (bC (by omega) (bC (by omega) (bC (by omega) (bC (by omega) .nil)))))))) (denX rfl)) ?_
  refine hcons (kLenE (isX rfl) (denZ (m := 8) rfl) rfl) ?_
  refine hcons (kMid (P := 0) (Q := 1) (isX rfl) (.inl ⟨rfl, rfl⟩) (.inr ⟨_, _, rfl, (isZ (m := 1) rfl)⟩) (by omega) (by omega) (by simp) (denX rfl)) ?_
  refine hcons (kEqS (isX rfl) (isSx (l := [u8 46]) 1 46 rfl) (decide_eq_true rfl)) ?_
  refine hcons (kMid (P := 1) (Q := 8) (isX rfl) (.inr ⟨_, _, rfl, (isZ (m := 1) rfl)⟩) (.inl ⟨rfl, rfl⟩) (by omega) (by omega) (by simp) (denX rfl)) ?_
  refine hcons (kLenE (isX rfl) (denZ (m := 7) rfl) rfl) ?_
  refine hcons (kIdxC (isX rfl) (by simp) rfl (by omega)) ?_
  refine hcons (kIdxC (isX rfl) (by simp) rfl (by omega)) ?_
  refine hcons (kIdxE (i := 2) (isX rfl) (isZ (m := 2) rfl) (denX rfl) rfl (by simp) (bt_at rfl (by omega) (by omega))) ?_
  refine hcons (kGe (isX rfl) (isZ (m := 97) rfl) (decide_eq_false (by omega))) ?_
  exact hnil
def hy71 : List (HK × AV) := [(.bin .rem (.x 0) (u1 11), u1 7),
  (.conv 3 (.x 1), .x 3),
  (.bin .rem (.x 3) (i6 7), i6 2),
  (.bin .geq (.x 2) (u1 97), .b true),
  (.bin .leq (.x 2) (u1 122), .b true),
  (.bytes [u1 46, u1 112, u1 112, .x 2, u1 112, u1 112, u1 112, u1 112], .x 4),
  (.len (.x 4), i6 8),
  (.sub (.x 4) none (some (i6 1)), .x 5),
  (.bin .eql (.x 5) (.s 1 46), .b true),
  (.sub (.x 4) (some (i6 1)) none, .x 6),
  (.len (.x 6), i6 7),
  (.idx (.x 6) (i6 0), u1 112),
  (.idx (.x 6) (i6 1), u1 112),
  (.idx (.x 6) (i6 2), .x 7),
  (.bin .geq (.x 7) (u1 97), .b true),
  (.bin .leq (.x 7) (u1 122), .b true),
  (.idx (.x 6) (i6 3), u1 112),
  (.idx (.x 6) (i6 4), u1 112),
  (.idx (.x 6) (i6 5), u1 112),
  (.idx (.x 6) (i6 6), u1 112),
  (.bin .neq (.x 6) (.s 0 0), .b true)]
theorem run71 : okB (call (tbl hy71) 9000 7 [.x 0, .x 1, .x 2] ⟨H0 , 7, 0, 0⟩) = true := by kernel_rfl
def nu71 (n pos chr : Int) : List Value := [.int .u8 (n),
  .int .u8 (pos),
  .int .u8 (chr),
  .int .i64 (pos),
  St' ([u8 46, u8 112, u8 112, u8 (chr), u8 112, u8 112, u8 112, u8 112]),
  St' ([u8 46]),
  St' ([u8 112, u8 112, u8 (chr), u8 112, u8 112, u8 112, u8 112]),
  .int .u8 (chr)]
theorem path71 (n pos chr : Int) (bb : BB n pos chr) (h0 : n % 11 = 7) (h1 : pos % 7 = 2) (h2 : 97 ≤ chr) (h3 : chr ≤ 122) (w : World) (hl : laidE w) : Cw #[.int .u8 n, .int .u8 pos, .int .u8 chr] w := by
  obtain ⟨fi, hfi, hb⟩ := fiE
  refine runP (tb := tbl hy71) ((tabkOk (nuL (nu71 n pos chr)) (nuL_one (l := nu71 n pos chr) rfl)).hyps ?_) rfl hfi hb (run71 ) (args := [.int .u8 n, .int .u8 pos, .int .u8 chr]) (by simp only [RelL, Rel]; exact ⟨_, _, rfl, rfl, ⟨_, _, rfl, rfl, ⟨_, _, rfl, rfl, rfl⟩⟩⟩) w hl
  obtain ⟨b0, b1, b2, b3, b4, b5⟩ := bb
  unfold hy71
  refine hcons (kRem (isX rfl) (isZ (m := 11) rfl) (denZ (m := 7) rfl) (by omega) (by omega) (by omega)) ?_
  refine hcons (kConvF (isX rfl) tu3 (denX rfl) (fI64 (by omega) (by omega))) ?_
  refine hcons (kRem (isX rfl) (isZ (m := 7) rfl) (denZ (m := 2) rfl) (by omega) (by omega) (by omega)) ?_
  refine hcons (kGe (isX rfl) (isZ (m := 97) rfl) (decide_eq_true (by omega))) ?_
  refine hcons (kLe (isX rfl) (isZ (m := 122) rfl) (decide_eq_true (by omega))) ?_
  refine hcons (kBytesB (bs := [u8 46, u8 112, u8 112, u8 (chr), u8 112, u8 112, u8 112, u8 112]) (bC (by omega) (bC (by omega) (bC (by omega) (.cons (isB8 (isX rfl) (by omega) (by omega)) (bC (by omega) (bC (by omega) (bC (by omega) (bC (by omega) .nil)))))))) (denX rfl)) ?_
  refine hcons (kLenE (isX rfl) (denZ (m := 8) rfl) rfl) ?_
  refine hcons (kMid (P := 0) (Q := 1) (isX rfl) (.inl ⟨rfl, rfl⟩) (.inr ⟨_, _, rfl, (isZ (m := 1) rfl)⟩) (by omega) (by omega) (by simp) (denX rfl)) ?_
  refine hcons (kEqS (isX rfl) (isSx (l := [u8 46]) 1 46 rfl) (decide_eq_true rfl)) ?_
  refine hcons (kMid (P := 1) (Q := 8) (isX rfl) (.inr ⟨_, _, rfl, (isZ (m := 1) rfl)⟩) (.inl ⟨rfl, rfl⟩) (by omega) (by omega) (by simp) (denX rfl)) ?_
  refine hcons (kLenE (isX rfl) (denZ (m := 7) rfl) rfl) ?_
  refine hcons (kIdxC (isX rfl) (by simp) rfl (by omega)) ?_
  refine hcons (kIdxC (isX rfl) (by simp) rfl (by omega)) ?_
  refine hcons (kIdxE (i := 2) (isX rfl) (isZ (m := 2) rfl) (denX rfl) rfl (by simp) (bt_at rfl (by omega) (by omega))) ?_
  refine hcons (kGe (isX rfl) (isZ (m := 97) rfl) (decide_eq_true (by omega))) ?_
  refine hcons (kLe (isX rfl) (isZ (m := 122) rfl) (decide_eq_true (by omega))) ?_
  refine hcons (kIdxC (isX rfl) (by simp) rfl (by omega)) ?_
  refine hcons (kIdxC (isX rfl) (by simp) rfl (by omega)) ?_
  refine hcons (kIdxC (isX rfl) (by simp) rfl (by omega)) ?_
  refine hcons (kIdxC (isX rfl) (by simp) rfl (by omega)) ?_
  refine hcons (kNeS (isX rfl) (isSx (l := ([] : List UInt8)) 0 0 rfl) (bnT (by first | exact nilT (by first | omega | (simp only [List.length_append, List.length_cons, List.length_nil, List.length_take, List.length_drop, List.length_replicate, Int.natCast_add] at * <;> omega)) | exact nilF (by first | omega | (simp only [List.length_append, List.length_cons, List.length_nil, List.length_take, List.length_drop, List.length_replicate, Int.natCast_add] at * <;> omega)) | exact nilT' (by first | omega | (simp only [List.length_append, List.length_cons, List.length_nil, List.length_take, List.length_drop, List.length_replicate, Int.natCast_add] at * <;> omega)) | exact nilF' (by first | omega | (simp only [List.length_append, List.length_cons, List.length_nil, List.length_take, List.length_drop, List.length_replicate, Int.natCast_add] at * <;> omega))))) ?_
  exact hnil
end Go.Proofs.YticlhkekkfelpaaDoor.ruleExts
