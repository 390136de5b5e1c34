/- A part of the proof: an interpreter of the model's own code on partly known states, and that what it answers is what the program answers. No condition of its own. -/
import Derived.Test.YtejdkoheodambaaB1RecordBackO
set_option maxRecDepth 100000
set_option linter.unusedVariables false
set_option linter.unusedSimpArgs false
namespace Go.Proofs.Ytejdkoheodambaa.recordBack
open Go Go.AX Go.Proofs Go.Proofs.Ytejdkoheodambaa
def hy24 : List (HK × AV) := [(.len (.x 2), .x 5),
  (.bin .gtr (.x 5) (.i .i64 (.ofNat 2000)), .b false),
  (.len (.x 3), .x 6),
  (.bin .gtr (.x 6) (.i .i64 (.ofNat 200)), .b false),
  (.bin .eql (.x 0) (.i .u8 (.ofNat 0)), .b false),
  (.conv 3 (.x 0), .x 7),
  (.conv 3 (.x 1), .x 8),
  (.mm true (.x 5) (.i .i64 (.ofNat 0)), .x 9),
  (.un .neg (.x 9), .x 10),
  (.bin .and (.x 10) (.i .i64 (.ofNat 7)), .i .i64 (.ofNat 0)),
  (.bin .geq (.x 7) (.i .i64 (.ofNat 1)), .b true),
  (.bin .leq (.x 7) (.i .i64 (.ofNat 255)), .b true),
  (.bin .geq (.x 8) (.i .i64 (.ofNat 0)), .b true),
  (.bin .leq (.x 8) (.i .i64 (.ofNat 65535)), .b true),
  (.bin .leq (.x 5) (.i .i64 (.ofNat 65535)), .b true),
  (.conv 5 (.x 7), .x 11),
  (.bin .shr (.x 8) (.i .u64 (.ofNat 8)), .x 12),
  (.conv 5 (.x 12), .x 13),
  (.conv 5 (.x 8), .x 14),
  (.bin .shr (.x 5) (.i .u64 (.ofNat 8)), .x 15),
  (.conv 5 (.x 15), .x 16),
  (.conv 5 (.x 5), .x 17),
  (.bytes [.i .u8 (.ofNat 1), .x 11, .x 13, .x 14, .x 16, .x 17, .i .u8 (.ofNat 0), .i .u8 (.ofNat 0)], .x 18),
  (.bin .add (.x 18) (.x 2), .x 19),
  (.bin .add (.x 19) (.s 0 0), .x 20),
  (.len (.x 20), .x 21),
  (.bin .lss (.x 21) (.i .i64 (.ofNat 8)), .b false),
  (.bin .rem (.x 21) (.i .i64 (.ofNat 8)), .x 22),
  (.bin .neq (.x 22) (.i .i64 (.ofNat 0)), .b false),
  (.bin .add (.x 20) (.x 3), .x 23),
  (.bin .neq (.x 23) (.s 0 0), .b true),
  (.idx (.x 23) (.i .i64 (.ofNat 0)), .i .u8 (.ofNat 1)),
  (.len (.x 23), .x 24),
  (.bin .lss (.x 24) (.i .i64 (.ofNat 8)), .b false),
  (.idx (.x 23) (.i .i64 (.ofNat 4)), .x 25),
  (.conv 3 (.x 25), .x 26),
  (.bin .shl (.x 26) (.i .u64 (.ofNat 8)), .x 27),
  (.bin .add (.i .i64 (.ofNat 8)) (.x 27), .x 28),
  (.idx (.x 23) (.i .i64 (.ofNat 5)), .x 29),
  (.conv 3 (.x 29), .x 30),
  (.bin .add (.x 28) (.x 30), .x 31),
  (.idx (.x 23) (.i .i64 (.ofNat 6)), .i .u8 (.ofNat 0)),
  (.bin .add (.x 31) (.i .i64 (.ofNat 0)), .x 32),
  (.bin .lss (.x 24) (.x 32), .b false),
  (.idx (.x 23) (.i .i64 (.ofNat 1)), .x 33),
  (.bin .eql (.x 33) (.i .u8 (.ofNat 0)), .b false),
  (.conv 3 (.x 33), .x 34),
  (.idx (.x 23) (.i .i64 (.ofNat 2)), .x 35),
  (.conv 3 (.x 35), .x 36),
  (.bin .shl (.x 36) (.i .u64 (.ofNat 8)), .x 37),
  (.idx (.x 23) (.i .i64 (.ofNat 3)), .x 38),
  (.conv 3 (.x 38), .x 39),
  (.bin .or (.x 37) (.x 39), .x 40),
  (.bin .sub (.x 32) (.i .i64 (.ofNat 0)), .x 41),
  (.sub (.x 23) (some (.i .i64 (.ofNat 8))) (some (.x 41)), .x 42),
  (.sub (.x 23) (some (.x 32)) none, .x 43),
  (.conv 3 (.x 4), .x 44),
  (.bin .rem (.x 44) (.x 21), .x 45),
  (.sub (.x 20) none (some (.x 45)), .x 46),
  (.bin .neq (.x 46) (.s 0 0), .b false),
  (.len (.x 46), .x 47),
  (.bin .lss (.x 47) (.i .i64 (.ofNat 8)), .b true),
  (.eq 3 (.x 34) (.x 7), .b true),
  (.eq 3 (.x 40) (.x 8), .b true),
  (.eq 9 (.x 42) (.x 2), .b true),
  (.bin .eql (.x 43) (.x 3), .b true)]
noncomputable def tab24 : Tab := { tabk with hyp := hy24 }
theorem run24 : okB (call tab24 9000 3 [.x 0, .x 1, .x 2, .b true, .x 3, .x 4] ⟨H0 , 1, 0, 0⟩) = true := by kernel_rfl
def nu24 (t : Int) (id : Int) (c : List UInt8) (more : List UInt8) (cut : Int) : List Value := [.int .u8 (t),
  .int .u16 (id),
  St' c,
  St' more,
  .int .u16 (cut),
  .int .i64 ((c.length : Int)),
  .int .i64 ((more.length : Int)),
  .int .i64 (t),
  .int .i64 (id),
  .int .i64 (max ((c.length : Int)) 0),
  .int .i64 (-(max ((c.length : Int)) 0)),
  .int .u8 (t),
  .int .i64 (id / 256),
  .int .u8 (id / 256),
  .int .u8 (id % 256),
  .int .i64 (((c.length : Int)) / 256),
  .int .u8 ((((c.length : Int)) / 256) % 256),
  .int .u8 (((c.length : Int)) % 256),
  St' ([u8 1, u8 (t), u8 (id / 256), u8 (id % 256), u8 ((((c.length : Int)) / 256) % 256), u8 (((c.length : Int)) % 256), u8 0, u8 0]),
  St' (([u8 1, u8 (t), u8 (id / 256), u8 (id % 256), u8 ((((c.length : Int)) / 256) % 256), u8 (((c.length : Int)) % 256), u8 0, u8 0] ++ c)),
  St' (([u8 1, u8 (t), u8 (id / 256), u8 (id % 256), u8 ((((c.length : Int)) / 256) % 256), u8 (((c.length : Int)) % 256), u8 0, u8 0] ++ c)),
  .int .i64 ((c.length : Int) + 8),
  .int .i64 (((c.length : Int) + 8) % 8),
  St' (([u8 1, u8 (t), u8 (id / 256), u8 (id % 256), u8 ((((c.length : Int)) / 256) % 256), u8 (((c.length : Int)) % 256), u8 0, u8 0] ++ (c ++ more))),
  .int .i64 ((c.length : Int) + (more.length : Int) + 8),
  .int .u8 ((((c.length : Int)) / 256) % 256),
  .int .i64 ((((c.length : Int)) / 256) % 256),
  .int .i64 (((((c.length : Int)) / 256) % 256) * 256),
  .int .i64 (8 + (((((c.length : Int)) / 256) % 256) * 256)),
  .int .u8 (((c.length : Int)) % 256),
  .int .i64 (((c.length : Int)) % 256),
  .int .i64 ((8 + (((((c.length : Int)) / 256) % 256) * 256)) + (((c.length : Int)) % 256)),
  .int .i64 (((8 + (((((c.length : Int)) / 256) % 256) * 256)) + (((c.length : Int)) % 256)) + 0),
  .int .u8 (t),
  .int .i64 (t),
  .int .u8 (id / 256),
  .int .i64 (id / 256),
  .int .i64 ((id / 256) * 256),
  .int .u8 (id % 256),
  .int .i64 (id % 256),
  .int .i64 (((id / 256) * 256) + (id % 256)),
  .int .i64 ((((8 + (((((c.length : Int)) / 256) % 256) * 256)) + (((c.length : Int)) % 256)) + 0) - 0),
  St' c,
  St' more,
  .int .i64 (cut),
  .int .i64 (cut % ((c.length : Int) + 8)),
  St' ((List.take (cut % ((c.length : Int) + 8)).toNat (([u8 1, u8 (t), u8 (id / 256), u8 (id % 256), u8 ((((c.length : Int)) / 256) % 256), u8 (((c.length : Int)) % 256), u8 0, u8 0] ++ c)))),
  .int .i64 ((cut % ((c.length : Int) + 8)))]
theorem one24 (t : Int) (id : Int) (c : List UInt8) (more : List UInt8) (cut : Int) : ∀ j, (nuL (nu24 t id c more cut) j).oneCell' = true := nuL_one (l := nu24 t id c more cut) rfl
set_option maxHeartbeats 2000000 in
theorem hyOk24 (t : Int) (id : Int) (c : List UInt8) (more : List UInt8) (cut : Int) (b0 : 0 ≤ t) (b1 : t ≤ 255) (b2 : 0 ≤ id) (b3 : id ≤ 65535) (b4 : c.length ≤ 9223372036854775807) (b5 : more.length ≤ 9223372036854775807) (b6 : 0 ≤ cut) (b7 : cut ≤ 65535) (h0 : ¬ (2000 < (c.length : Int))) (h1 : ¬ (200 < (more.length : Int))) (h2 : ¬ (t = 0)) (h3 : (-(max ((c.length : Int)) 0)) % 8 = 0) (h15 : (cut % ((c.length : Int) + 8)) = 0) : ∀ k r, (k, r) ∈ hy24 → HOk (cx (nuL (nu24 t id c more cut)) (one24 t id c more cut) 0 laidE laidE_stab) k r := by
  have := Int.emod_nonneg cut (show ((c.length : Int) + 8) ≠ 0 by omega); have := Int.emod_lt_of_pos cut (show 0 < ((c.length : Int) + 8) by omega)
  unfold hy24
  refine hcons (kLenE (isX rfl) (denX rfl) (by first | omega | (simp only [List.length_append, List.length_cons, List.length_nil, List.length_take, List.length_drop, Int.natCast_add] at *; omega))) ?_
  refine hcons (kGt (isX rfl) (isZ (m := 2000) rfl) (decide_eq_false (by omega))) ?_
  refine hcons (kLenE (isX rfl) (denX rfl) (by first | omega | (simp only [List.length_append, List.length_cons, List.length_nil, List.length_take, List.length_drop, Int.natCast_add] at *; omega))) ?_
  refine hcons (kGt (isX rfl) (isZ (m := 200) rfl) (decide_eq_false (by omega))) ?_
  refine hcons (kEqI (isX rfl) (isZ (m := 0) rfl) (decide_eq_false (by omega))) ?_
  refine hcons (kConvF (isX rfl) tu3 (denX rfl) (fI64 (by omega) (by omega))) ?_
  refine hcons (kConvF (isX rfl) tu3 (denX rfl) (fI64 (by omega) (by omega))) ?_
  refine hcons (kMax (isX rfl) (isZ (m := 0) rfl) (denX rfl) rfl) ?_
  refine hcons (kNeg (isX rfl) (denX rfl) rfl (fI64 (by omega) (by omega))) ?_
  refine hcons (kAndG 3 8 rfl (by decide) (isX rfl) (isZ (m := 7) rfl) (denZ (m := 0) rfl) (fI64 (by omega) (by omega)) rfl (by omega) (fI64 (by omega) (by omega))) ?_
  refine hcons (kGe (isX rfl) (isZ (m := 1) rfl) (decide_eq_true (by omega))) ?_
  refine hcons (kLe (isX rfl) (isZ (m := 255) rfl) (decide_eq_true (by omega))) ?_
  refine hcons (kGe (isX rfl) (isZ (m := 0) rfl) (decide_eq_true (by omega))) ?_
  refine hcons (kLe (isX rfl) (isZ (m := 65535) rfl) (decide_eq_true (by omega))) ?_
  refine hcons (kLe (isX rfl) (isZ (m := 65535) rfl) (decide_eq_true (by omega))) ?_
  refine hcons (kConvF (isX rfl) tu5 (denX rfl) (fU8 (by omega) (by omega))) ?_
  refine hcons (kShrM 8 256 rfl (isX rfl) (isZ (m := 8) rfl) (denX rfl) rfl (by decide) (by omega) rfl) ?_
  refine hcons (kConvF (isX rfl) tu5 (denX rfl) (fU8 (by omega) (by omega))) ?_
  refine hcons (kConv8 (isX rfl) tu5 (denX rfl) rfl) ?_
  refine hcons (kShrM 8 256 rfl (isX rfl) (isZ (m := 8) rfl) (denX rfl) rfl (by decide) (by omega) rfl) ?_
  refine hcons (kConv8 (isX rfl) tu5 (denX rfl) rfl) ?_
  refine hcons (kConv8 (isX rfl) tu5 (denX rfl) rfl) ?_
  refine hcons (kBytesB (bs := [u8 1, u8 (t), u8 (id / 256), u8 (id % 256), u8 ((((c.length : Int)) / 256) % 256), u8 (((c.length : Int)) % 256), u8 0, u8 0]) (.cons (isB8 (isZ (m := 1) rfl) (by omega) (by omega)) (.cons (isB8 (isX rfl) (by omega) (by omega)) (.cons (isB8 (isX rfl) (by omega) (by omega)) (.cons (isB8 (isX rfl) (by omega) (by omega)) (.cons (isB8 (isX rfl) (by omega) (by omega)) (.cons (isB8 (isX rfl) (by omega) (by omega)) (.cons (isB8 (isZ (m := 0) rfl) (by omega) (by omega)) (.cons (isB8 (isZ (m := 0) rfl) (by omega) (by omega)) .nil)))))))) (denX rfl)) ?_
  refine hcons (kCat (isX rfl) (isX rfl) (denX rfl) (by first | rfl | (simp only [List.append_assoc, List.cons_append, List.nil_append, List.append_nil]; done)) (by first | omega | (simp only [List.length_append, List.length_cons, List.length_nil, List.length_take, List.length_drop, Int.natCast_add] at *; omega))) ?_
  refine hcons (kCat (isX rfl) (isSx (l := ([] : List UInt8)) 0 0 rfl) (denX rfl) (by first | rfl | (simp only [List.append_assoc, List.cons_append, List.nil_append, List.append_nil]; done)) (by first | omega | (simp only [List.length_append, List.length_cons, List.length_nil, List.length_take, List.length_drop, Int.natCast_add] at *; omega))) ?_
  refine hcons (kLenE (isX rfl) (denX rfl) (by first | omega | (simp only [List.length_append, List.length_cons, List.length_nil, List.length_take, List.length_drop, Int.natCast_add] at *; omega))) ?_
  refine hcons (kLt (isX rfl) (isZ (m := 8) rfl) (decide_eq_false (by omega))) ?_
  refine hcons (kRem (isX rfl) (isZ (m := 8) rfl) (denX rfl) (by omega) (by omega) rfl) ?_
  refine hcons (kNeI (isX rfl) (isZ (m := 0) rfl) (neF (by omega))) ?_
  refine hcons (kCat (isX rfl) (isX rfl) (denX rfl) (by first | rfl | (simp only [List.append_assoc, List.cons_append, List.nil_append, List.append_nil]; done)) (by first | omega | (simp only [List.length_append, List.length_cons, List.length_nil, List.length_take, List.length_drop, Int.natCast_add] at *; omega))) ?_
  refine hcons (kNeS (isX rfl) (isSx (l := ([] : List UInt8)) 0 0 rfl) (bnT (by first | exact nilT (by first | omega | (simp only [List.length_append, List.length_cons, List.length_nil, List.length_take, List.length_drop, Int.natCast_add] at *; omega)) | exact nilF (by first | omega | (simp only [List.length_append, List.length_cons, List.length_nil, List.length_take, List.length_drop, Int.natCast_add] at *; omega)) | exact nilT' (by first | omega | (simp only [List.length_append, List.length_cons, List.length_nil, List.length_take, List.length_drop, Int.natCast_add] at *; omega)) | exact nilF' (by first | omega | (simp only [List.length_append, List.length_cons, List.length_nil, List.length_take, List.length_drop, Int.natCast_add] at *; omega))))) ?_
  refine hcons (kIdxE (i := 0) (isX rfl) (isZ (m := 0) rfl) (denZ (m := 1) rfl) rfl (by first | omega | (simp only [List.length_append, List.length_cons, List.length_nil, List.length_take, List.length_drop, Int.natCast_add] at *; omega)) (bt_at rfl (by omega) (by omega))) ?_
  refine hcons (kLenE (isX rfl) (denX rfl) (by first | omega | (simp only [List.length_append, List.length_cons, List.length_nil, List.length_take, List.length_drop, Int.natCast_add] at *; omega))) ?_
  refine hcons (kLt (isX rfl) (isZ (m := 8) rfl) (decide_eq_false (by omega))) ?_
  refine hcons (kIdxE (i := 4) (isX rfl) (isZ (m := 4) rfl) (denX rfl) rfl (by first | omega | (simp only [List.length_append, List.length_cons, List.length_nil, List.length_take, List.length_drop, Int.natCast_add] at *; omega)) (bt_at rfl (by omega) (by omega))) ?_
  refine hcons (kConvF (isX rfl) tu3 (denX rfl) (fI64 (by omega) (by omega))) ?_
  refine hcons (kShlM 8 256 rfl (isX rfl) (isZ (m := 8) rfl) (denX rfl) rfl (by decide) rfl (fI64 (by omega) (by omega))) ?_
  refine hcons (kAdd (isZ (m := 8) rfl) (isX rfl) (denX rfl) rfl (fI64 (by omega) (by omega))) ?_
  refine hcons (kIdxE (i := 5) (isX rfl) (isZ (m := 5) rfl) (denX rfl) rfl (by first | omega | (simp only [List.length_append, List.length_cons, List.length_nil, List.length_take, List.length_drop, Int.natCast_add] at *; omega)) (bt_at rfl (by omega) (by omega))) ?_
  refine hcons (kConvF (isX rfl) tu3 (denX rfl) (fI64 (by omega) (by omega))) ?_
  refine hcons (kAdd (isX rfl) (isX rfl) (denX rfl) rfl (fI64 (by omega) (by omega))) ?_
  refine hcons (kIdxE (i := 6) (isX rfl) (isZ (m := 6) rfl) (denZ (m := 0) rfl) rfl (by first | omega | (simp only [List.length_append, List.length_cons, List.length_nil, List.length_take, List.length_drop, Int.natCast_add] at *; omega)) (bt_at rfl (by omega) (by omega))) ?_
  refine hcons (kAdd (isX rfl) (isZ (m := 0) rfl) (denX rfl) rfl (fI64 (by omega) (by omega))) ?_
  refine hcons (kLt (isX rfl) (isX rfl) (decide_eq_false (by omega))) ?_
  refine hcons (kIdxE (i := 1) (isX rfl) (isZ (m := 1) rfl) (denX rfl) rfl (by first | omega | (simp only [List.length_append, List.length_cons, List.length_nil, List.length_take, List.length_drop, Int.natCast_add] at *; omega)) (bt_at rfl (by omega) (by omega))) ?_
  refine hcons (kEqI (isX rfl) (isZ (m := 0) rfl) (decide_eq_false (by omega))) ?_
  refine hcons (kConvF (isX rfl) tu3 (denX rfl) (fI64 (by omega) (by omega))) ?_
  refine hcons (kIdxE (i := 2) (isX rfl) (isZ (m := 2) rfl) (denX rfl) rfl (by first | omega | (simp only [List.length_append, List.length_cons, List.length_nil, List.length_take, List.length_drop, Int.natCast_add] at *; omega)) (bt_at rfl (by omega) (by omega))) ?_
  refine hcons (kConvF (isX rfl) tu3 (denX rfl) (fI64 (by omega) (by omega))) ?_
  refine hcons (kShlM 8 256 rfl (isX rfl) (isZ (m := 8) rfl) (denX rfl) rfl (by decide) rfl (fI64 (by omega) (by omega))) ?_
  refine hcons (kIdxE (i := 3) (isX rfl) (isZ (m := 3) rfl) (denX rfl) rfl (by first | omega | (simp only [List.length_append, List.length_cons, List.length_nil, List.length_take, List.length_drop, Int.natCast_add] at *; omega)) (bt_at rfl (by omega) (by omega))) ?_
  refine hcons (kConvF (isX rfl) tu3 (denX rfl) (fI64 (by omega) (by omega))) ?_
  refine hcons (kOrM 8 256 rfl (isX rfl) (isX rfl) (denX rfl) (by omega) (by omega) (fI64 (by omega) (by omega)) (fI64 (by omega) (by omega)) (by omega) (by omega) rfl (fI64 (by omega) (by omega))) ?_
  refine hcons (kSub (isX rfl) (isZ (m := 0) rfl) (denX rfl) rfl (fI64 (by omega) (by omega))) ?_
  refine hcons (kCut (isX rfl) (.inr ⟨_, _, rfl, (isZ (m := 8) rfl)⟩) (.inr ⟨_, _, rfl, (isX rfl)⟩) (p := [u8 1, u8 (t), u8 (id / 256), u8 (id % 256), u8 ((((c.length : Int)) / 256) % 256), u8 (((c.length : Int)) % 256), u8 0, u8 0]) (m := c) (q := more) (by first | rfl | (simp only [List.append_assoc, List.cons_append, List.nil_append, List.append_nil]; done)) (by first | omega | (simp only [List.length_append, List.length_cons, List.length_nil, List.length_take, List.length_drop, Int.natCast_add] at *; omega)) (by first | omega | (simp only [List.length_append, List.length_cons, List.length_nil, List.length_take, List.length_drop, Int.natCast_add] at *; omega)) (denX rfl)) ?_
  refine hcons (kCut (isX rfl) (.inr ⟨_, _, rfl, (isX rfl)⟩) (.inl ⟨rfl, rfl⟩) (p := ([u8 1, u8 (t), u8 (id / 256), u8 (id % 256), u8 ((((c.length : Int)) / 256) % 256), u8 (((c.length : Int)) % 256), u8 0, u8 0] ++ c)) (m := more) (q := ([] : List UInt8)) (by first | rfl | (simp only [List.append_assoc, List.cons_append, List.nil_append, List.append_nil]; done)) (by first | omega | (simp only [List.length_append, List.length_cons, List.length_nil, List.length_take, List.length_drop, Int.natCast_add] at *; omega)) (by first | omega | (simp only [List.length_append, List.length_cons, List.length_nil, List.length_take, List.length_drop, Int.natCast_add] at *; omega)) (denX rfl)) ?_
  refine hcons (kConvF (isX rfl) tu3 (denX rfl) (fI64 (by omega) (by omega))) ?_
  refine hcons (kRem (isX rfl) (isX rfl) (denX rfl) (by omega) (by omega) rfl) ?_
  refine hcons (kTake (isX rfl) (isX rfl) (by first | omega | (simp only [List.length_append, List.length_cons, List.length_nil, List.length_take, List.length_drop, Int.natCast_add] at *; omega)) (by first | omega | (simp only [List.length_append, List.length_cons, List.length_nil, List.length_take, List.length_drop, Int.natCast_add] at *; omega)) (denX rfl)) ?_
  refine hcons (kNeS (isX rfl) (isSx (l := ([] : List UInt8)) 0 0 rfl) (bnF (by first | exact nilT (by first | omega | (simp only [List.length_append, List.length_cons, List.length_nil, List.length_take, List.length_drop, Int.natCast_add] at *; omega)) | exact nilF (by first | omega | (simp only [List.length_append, List.length_cons, List.length_nil, List.length_take, List.length_drop, Int.natCast_add] at *; omega)) | exact nilT' (by first | omega | (simp only [List.length_append, List.length_cons, List.length_nil, List.length_take, List.length_drop, Int.natCast_add] at *; omega)) | exact nilF' (by first | omega | (simp only [List.length_append, List.length_cons, List.length_nil, List.length_take, List.length_drop, Int.natCast_add] at *; omega))))) ?_
  refine hcons (kLenE (isX rfl) (denX rfl) (by first | omega | (simp only [List.length_append, List.length_cons, List.length_nil, List.length_take, List.length_drop, Int.natCast_add] at *; omega))) ?_
  refine hcons (kLt (isX rfl) (isZ (m := 8) rfl) (decide_eq_true (by omega))) ?_
  refine hcons (kEqT (isX rfl) (isX rfl) tu3 (decide_eq_true (by omega))) ?_
  refine hcons (kEqT (isX rfl) (isX rfl) tu3 (decide_eq_true (by omega))) ?_
  refine hcons (kEqTS (isX rfl) (isX rfl) tu9 (decide_eq_true rfl)) ?_
  refine hcons (kEqS (isX rfl) (isX rfl) (decide_eq_true rfl)) ?_
  exact hnil
theorem path24 (t : Int) (id : Int) (c : List UInt8) (more : List UInt8) (cut : Int) (b0 : 0 ≤ t) (b1 : t ≤ 255) (b2 : 0 ≤ id) (b3 : id ≤ 65535) (b4 : c.length ≤ 9223372036854775807) (b5 : more.length ≤ 9223372036854775807) (b6 : 0 ≤ cut) (b7 : cut ≤ 65535) (h0 : ¬ (2000 < (c.length : Int))) (h1 : ¬ (200 < (more.length : Int))) (h2 : ¬ (t = 0)) (h3 : (-(max ((c.length : Int)) 0)) % 8 = 0) (h15 : (cut % ((c.length : Int) + 8)) = 0) (w : World) (hl : laidE w) : Calls Try.prog 3 #[.int .u8 t, .int .u16 id, St' c, .bool true, St' more, .int .u16 cut] w fun e w' => e = .returned (.bool true) ∧ Go.AX.Below w.heap.size w w' := by
  obtain ⟨fi, hfi, hb⟩ : ∃ fi, tabk.fn.get 3 = some fi ∧ fi.body.isSome = true := ⟨_, rfl, by kernel_rfl⟩
  exact runP (tb := tab24) ((tabkOk (nuL (nu24 t id c more cut)) (one24 t id c more cut)).hyps (hyOk24 t id c more cut b0 b1 b2 b3 b4 b5 b6 b7 h0 h1 h2 h3 h15)) rfl hfi hb (run24 ) (args := [.int .u8 t, .int .u16 id, St' c, .bool true, St' more, .int .u16 cut]) (by simp only [RelL, Rel]; exact ⟨_, _, rfl, rfl, ⟨_, _, rfl, rfl, ⟨_, _, rfl, rfl, ⟨_, _, rfl, rfl, ⟨_, _, rfl, rfl, ⟨_, _, rfl, rfl, rfl⟩⟩⟩⟩⟩⟩) w hl
def hy25 : List (HK × AV) := [(.len (.x 2), .x 5),
  (.bin .gtr (.x 5) (.i .i64 (.ofNat 2000)), .b false),
  (.len (.x 3), .x 6),
  (.bin .gtr (.x 6) (.i .i64 (.ofNat 200)), .b false),
  (.bin .eql (.x 0) (.i .u8 (.ofNat 0)), .b false),
  (.conv 3 (.x 0), .x 7),
  (.conv 3 (.x 1), .x 8),
  (.mm true (.x 5) (.i .i64 (.ofNat 0)), .x 9),
  (.un .neg (.x 9), .x 10),
  (.bin .and (.x 10) (.i .i64 (.ofNat 7)), .i .i64 (.ofNat 0)),
  (.bin .geq (.x 7) (.i .i64 (.ofNat 1)), .b true),
  (.bin .leq (.x 7) (.i .i64 (.ofNat 255)), .b true),
  (.bin .geq (.x 8) (.i .i64 (.ofNat 0)), .b true),
  (.bin .leq (.x 8) (.i .i64 (.ofNat 65535)), .b true),
  (.bin .leq (.x 5) (.i .i64 (.ofNat 65535)), .b true),
  (.conv 5 (.x 7), .x 11),
  (.bin .shr (.x 8) (.i .u64 (.ofNat 8)), .x 12),
  (.conv 5 (.x 12), .x 13),
  (.conv 5 (.x 8), .x 14),
  (.bin .shr (.x 5) (.i .u64 (.ofNat 8)), .x 15),
  (.conv 5 (.x 15), .x 16),
  (.conv 5 (.x 5), .x 17),
  (.bytes [.i .u8 (.ofNat 1), .x 11, .x 13, .x 14, .x 16, .x 17, .i .u8 (.ofNat 0), .i .u8 (.ofNat 0)], .x 18),
  (.bin .add (.x 18) (.x 2), .x 19),
  (.bin .add (.x 19) (.s 0 0), .x 20),
  (.len (.x 20), .x 21),
  (.bin .lss (.x 21) (.i .i64 (.ofNat 8)), .b false),
  (.bin .rem (.x 21) (.i .i64 (.ofNat 8)), .x 22),
  (.bin .neq (.x 22) (.i .i64 (.ofNat 0)), .b false),
  (.bin .add (.x 20) (.x 3), .x 23),
  (.bin .neq (.x 23) (.s 0 0), .b true),
  (.idx (.x 23) (.i .i64 (.ofNat 0)), .i .u8 (.ofNat 1)),
  (.len (.x 23), .x 24),
  (.bin .lss (.x 24) (.i .i64 (.ofNat 8)), .b false),
  (.idx (.x 23) (.i .i64 (.ofNat 4)), .x 25),
  (.conv 3 (.x 25), .x 26),
  (.bin .shl (.x 26) (.i .u64 (.ofNat 8)), .x 27),
  (.bin .add (.i .i64 (.ofNat 8)) (.x 27), .x 28),
  (.idx (.x 23) (.i .i64 (.ofNat 5)), .x 29),
  (.conv 3 (.x 29), .x 30),
  (.bin .add (.x 28) (.x 30), .x 31),
  (.idx (.x 23) (.i .i64 (.ofNat 6)), .i .u8 (.ofNat 0)),
  (.bin .add (.x 31) (.i .i64 (.ofNat 0)), .x 32),
  (.bin .lss (.x 24) (.x 32), .b false),
  (.idx (.x 23) (.i .i64 (.ofNat 1)), .x 33),
  (.bin .eql (.x 33) (.i .u8 (.ofNat 0)), .b false),
  (.conv 3 (.x 33), .x 34),
  (.idx (.x 23) (.i .i64 (.ofNat 2)), .x 35),
  (.conv 3 (.x 35), .x 36),
  (.bin .shl (.x 36) (.i .u64 (.ofNat 8)), .x 37),
  (.idx (.x 23) (.i .i64 (.ofNat 3)), .x 38),
  (.conv 3 (.x 38), .x 39),
  (.bin .or (.x 37) (.x 39), .x 40),
  (.bin .sub (.x 32) (.i .i64 (.ofNat 0)), .x 41),
  (.sub (.x 23) (some (.i .i64 (.ofNat 8))) (some (.x 41)), .x 42),
  (.sub (.x 23) (some (.x 32)) none, .x 43),
  (.conv 3 (.x 4), .x 44),
  (.bin .rem (.x 44) (.x 21), .x 45),
  (.sub (.x 20) none (some (.x 45)), .x 46),
  (.bin .neq (.x 46) (.s 0 0), .b true),
  (.idx (.x 46) (.i .i64 (.ofNat 0)), .i .u8 (.ofNat 1)),
  (.len (.x 46), .x 47),
  (.bin .lss (.x 47) (.i .i64 (.ofNat 8)), .b true),
  (.eq 3 (.x 34) (.x 7), .b true),
  (.eq 3 (.x 40) (.x 8), .b true),
  (.eq 9 (.x 42) (.x 2), .b true),
  (.bin .eql (.x 43) (.x 3), .b true)]
noncomputable def tab25 : Tab := { tabk with hyp := hy25 }
theorem run25 : okB (call tab25 9000 3 [.x 0, .x 1, .x 2, .b true, .x 3, .x 4] ⟨H0 , 1, 0, 0⟩) = true := by kernel_rfl
def nu25 (t : Int) (id : Int) (c : List UInt8) (more : List UInt8) (cut : Int) : List Value := [.int .u8 (t),
  .int .u16 (id),
  St' c,
  St' more,
  .int .u16 (cut),
  .int .i64 ((c.length : Int)),
  .int .i64 ((more.length : Int)),
  .int .i64 (t),
  .int .i64 (id),
  .int .i64 (max ((c.length : Int)) 0),
  .int .i64 (-(max ((c.length : Int)) 0)),
  .int .u8 (t),
  .int .i64 (id / 256),
  .int .u8 (id / 256),
  .int .u8 (id % 256),
  .int .i64 (((c.length : Int)) / 256),
  .int .u8 ((((c.length : Int)) / 256) % 256),
  .int .u8 (((c.length : Int)) % 256),
  St' ([u8 1, u8 (t), u8 (id / 256), u8 (id % 256), u8 ((((c.length : Int)) / 256) % 256), u8 (((c.length : Int)) % 256), u8 0, u8 0]),
  St' (([u8 1, u8 (t), u8 (id / 256), u8 (id % 256), u8 ((((c.length : Int)) / 256) % 256), u8 (((c.length : Int)) % 256), u8 0, u8 0] ++ c)),
  St' (([u8 1, u8 (t), u8 (id / 256), u8 (id % 256), u8 ((((c.length : Int)) / 256) % 256), u8 (((c.length : Int)) % 256), u8 0, u8 0] ++ c)),
  .int .i64 ((c.length : Int) + 8),
  .int .i64 (((c.length : Int) + 8) % 8),
  St' (([u8 1, u8 (t), u8 (id / 256), u8 (id % 256), u8 ((((c.length : Int)) / 256) % 256), u8 (((c.length : Int)) % 256), u8 0, u8 0] ++ (c ++ more))),
  .int .i64 ((c.length : Int) + (more.length : Int) + 8),
  .int .u8 ((((c.length : Int)) / 256) % 256),
  .int .i64 ((((c.length : Int)) / 256) % 256),
  .int .i64 (((((c.length : Int)) / 256) % 256) * 256),
  .int .i64 (8 + (((((c.length : Int)) / 256) % 256) * 256)),
  .int .u8 (((c.length : Int)) % 256),
  .int .i64 (((c.length : Int)) % 256),
  .int .i64 ((8 + (((((c.length : Int)) / 256) % 256) * 256)) + (((c.length : Int)) % 256)),
  .int .i64 (((8 + (((((c.length : Int)) / 256) % 256) * 256)) + (((c.length : Int)) % 256)) + 0),
  .int .u8 (t),
  .int .i64 (t),
  .int .u8 (id / 256),
  .int .i64 (id / 256),
  .int .i64 ((id / 256) * 256),
  .int .u8 (id % 256),
  .int .i64 (id % 256),
  .int .i64 (((id / 256) * 256) + (id % 256)),
  .int .i64 ((((8 + (((((c.length : Int)) / 256) % 256) * 256)) + (((c.length : Int)) % 256)) + 0) - 0),
  St' c,
  St' more,
  .int .i64 (cut),
  .int .i64 (cut % ((c.length : Int) + 8)),
  St' ((List.take (cut % ((c.length : Int) + 8)).toNat (([u8 1, u8 (t), u8 (id / 256), u8 (id % 256), u8 ((((c.length : Int)) / 256) % 256), u8 (((c.length : Int)) % 256), u8 0, u8 0] ++ c)))),
  .int .i64 ((cut % ((c.length : Int) + 8)))]
theorem one25 (t : Int) (id : Int) (c : List UInt8) (more : List UInt8) (cut : Int) : ∀ j, (nuL (nu25 t id c more cut) j).oneCell' = true := nuL_one (l := nu25 t id c more cut) rfl
set_option maxHeartbeats 2000000 in
theorem hyOk25 (t : Int) (id : Int) (c : List UInt8) (more : List UInt8) (cut : Int) (b0 : 0 ≤ t) (b1 : t ≤ 255) (b2 : 0 ≤ id) (b3 : id ≤ 65535) (b4 : c.length ≤ 9223372036854775807) (b5 : more.length ≤ 9223372036854775807) (b6 : 0 ≤ cut) (b7 : cut ≤ 65535) (h0 : ¬ (2000 < (c.length : Int))) (h1 : ¬ (200 < (more.length : Int))) (h2 : ¬ (t = 0)) (h3 : (-(max ((c.length : Int)) 0)) % 8 = 0) (h15 : ¬ ((cut % ((c.length : Int) + 8)) = 0)) (h16 : (cut % ((c.length : Int) + 8)) < 8) : ∀ k r, (k, r) ∈ hy25 → HOk (cx (nuL (nu25 t id c more cut)) (one25 t id c more cut) 0 laidE laidE_stab) k r := by
  have := Int.emod_nonneg cut (show ((c.length : Int) + 8) ≠ 0 by omega); have := Int.emod_lt_of_pos cut (show 0 < ((c.length : Int) + 8) by omega)
  unfold hy25
  refine hcons (kLenE (isX rfl) (denX rfl) (by first | omega | (simp only [List.length_append, List.length_cons, List.length_nil, List.length_take, List.length_drop, Int.natCast_add] at *; omega))) ?_
  refine hcons (kGt (isX rfl) (isZ (m := 2000) rfl) (decide_eq_false (by omega))) ?_
  refine hcons (kLenE (isX rfl) (denX rfl) (by first | omega | (simp only [List.length_append, List.length_cons, List.length_nil, List.length_take, List.length_drop, Int.natCast_add] at *; omega))) ?_
  refine hcons (kGt (isX rfl) (isZ (m := 200) rfl) (decide_eq_false (by omega))) ?_
  refine hcons (kEqI (isX rfl) (isZ (m := 0) rfl) (decide_eq_false (by omega))) ?_
  refine hcons (kConvF (isX rfl) tu3 (denX rfl) (fI64 (by omega) (by omega))) ?_
  refine hcons (kConvF (isX rfl) tu3 (denX rfl) (fI64 (by omega) (by omega))) ?_
  refine hcons (kMax (isX rfl) (isZ (m := 0) rfl) (denX rfl) rfl) ?_
  refine hcons (kNeg (isX rfl) (denX rfl) rfl (fI64 (by omega) (by omega))) ?_
  refine hcons (kAndG 3 8 rfl (by decide) (isX rfl) (isZ (m := 7) rfl) (denZ (m := 0) rfl) (fI64 (by omega) (by omega)) rfl (by omega) (fI64 (by omega) (by omega))) ?_
  refine hcons (kGe (isX rfl) (isZ (m := 1) rfl) (decide_eq_true (by omega))) ?_
  refine hcons (kLe (isX rfl) (isZ (m := 255) rfl) (decide_eq_true (by omega))) ?_
  refine hcons (kGe (isX rfl) (isZ (m := 0) rfl) (decide_eq_true (by omega))) ?_
  refine hcons (kLe (isX rfl) (isZ (m := 65535) rfl) (decide_eq_true (by omega))) ?_
  refine hcons (kLe (isX rfl) (isZ (m := 65535) rfl) (decide_eq_true (by omega))) ?_
  refine hcons (kConvF (isX rfl) tu5 (denX rfl) (fU8 (by omega) (by omega))) ?_
  refine hcons (kShrM 8 256 rfl (isX rfl) (isZ (m := 8) rfl) (denX rfl) rfl (by decide) (by omega) rfl) ?_
  refine hcons (kConvF (isX rfl) tu5 (denX rfl) (fU8 (by omega) (by omega))) ?_
  refine hcons (kConv8 (isX rfl) tu5 (denX rfl) rfl) ?_
  refine hcons (kShrM 8 256 rfl (isX rfl) (isZ (m := 8) rfl) (denX rfl) rfl (by decide) (by omega) rfl) ?_
  refine hcons (kConv8 (isX rfl) tu5 (denX rfl) rfl) ?_
  refine hcons (kConv8 (isX rfl) tu5 (denX rfl) rfl) ?_
  refine hcons (kBytesB (bs := [u8 1, u8 (t), u8 (id / 256), u8 (id % 256), u8 ((((c.length : Int)) / 256) % 256), u8 (((c.length : Int)) % 256), u8 0, u8 0]) (.cons (isB8 (isZ (m := 1) rfl) (by omega) (by omega)) (.cons (isB8 (isX rfl) (by omega) (by omega)) (.cons (isB8 (isX rfl) (by omega) (by omega)) (.cons (isB8 (isX rfl) (by omega) (by omega)) (.cons (isB8 (isX rfl) (by omega) (by omega)) (.cons (isB8 (isX rfl) (by omega) (by omega)) (.cons (isB8 (isZ (m := 0) rfl) (by omega) (by omega)) (.cons (isB8 (isZ (m := 0) rfl) (by omega) (by omega)) .nil)))))))) (denX rfl)) ?_
  refine hcons (kCat (isX rfl) (isX rfl) (denX rfl) (by first | rfl | (simp only [List.append_assoc, List.cons_append, List.nil_append, List.append_nil]; done)) (by first | omega | (simp only [List.length_append, List.length_cons, List.length_nil, List.length_take, List.length_drop, Int.natCast_add] at *; omega))) ?_
  refine hcons (kCat (isX rfl) (isSx (l := ([] : List UInt8)) 0 0 rfl) (denX rfl) (by first | rfl | (simp only [List.append_assoc, List.cons_append, List.nil_append, List.append_nil]; done)) (by first | omega | (simp only [List.length_append, List.length_cons, List.length_nil, List.length_take, List.length_drop, Int.natCast_add] at *; omega))) ?_
  refine hcons (kLenE (isX rfl) (denX rfl) (by first | omega | (simp only [List.length_append, List.length_cons, List.length_nil, List.length_take, List.length_drop, Int.natCast_add] at *; omega))) ?_
  refine hcons (kLt (isX rfl) (isZ (m := 8) rfl) (decide_eq_false (by omega))) ?_
  refine hcons (kRem (isX rfl) (isZ (m := 8) rfl) (denX rfl) (by omega) (by omega) rfl) ?_
  refine hcons (kNeI (isX rfl) (isZ (m := 0) rfl) (neF (by omega))) ?_
  refine hcons (kCat (isX rfl) (isX rfl) (denX rfl) (by first | rfl | (simp only [List.append_assoc, List.cons_append, List.nil_append, List.append_nil]; done)) (by first | omega | (simp only [List.length_append, List.length_cons, List.length_nil, List.length_take, List.length_drop, Int.natCast_add] at *; omega))) ?_
  refine hcons (kNeS (isX rfl) (isSx (l := ([] : List UInt8)) 0 0 rfl) (bnT (by first | exact nilT (by first | omega | (simp only [List.length_append, List.length_cons, List.length_nil, List.length_take, List.length_drop, Int.natCast_add] at *; omega)) | exact nilF (by first | omega | (simp only [List.length_append, List.length_cons, List.length_nil, List.length_take, List.length_drop, Int.natCast_add] at *; omega)) | exact nilT' (by first | omega | (simp only [List.length_append, List.length_cons, List.length_nil, List.length_take, List.length_drop, Int.natCast_add] at *; omega)) | exact nilF' (by first | omega | (simp only [List.length_append, List.length_cons, List.length_nil, List.length_take, List.length_drop, Int.natCast_add] at *; omega))))) ?_
  refine hcons (kIdxE (i := 0) (isX rfl) (isZ (m := 0) rfl) (denZ (m := 1) rfl) rfl (by first | omega | (simp only [List.length_append, List.length_cons, List.length_nil, List.length_take, List.length_drop, Int.natCast_add] at *; omega)) (bt_at rfl (by omega) (by omega))) ?_
  refine hcons (kLenE (isX rfl) (denX rfl) (by first | omega | (simp only [List.length_append, List.length_cons, List.length_nil, List.length_take, List.length_drop, Int.natCast_add] at *; omega))) ?_
  refine hcons (kLt (isX rfl) (isZ (m := 8) rfl) (decide_eq_false (by omega))) ?_
  refine hcons (kIdxE (i := 4) (isX rfl) (isZ (m := 4) rfl) (denX rfl) rfl (by first | omega | (simp only [List.length_append, List.length_cons, List.length_nil, List.length_take, List.length_drop, Int.natCast_add] at *; omega)) (bt_at rfl (by omega) (by omega))) ?_
  refine hcons (kConvF (isX rfl) tu3 (denX rfl) (fI64 (by omega) (by omega))) ?_
  refine hcons (kShlM 8 256 rfl (isX rfl) (isZ (m := 8) rfl) (denX rfl) rfl (by decide) rfl (fI64 (by omega) (by omega))) ?_
  refine hcons (kAdd (isZ (m := 8) rfl) (isX rfl) (denX rfl) rfl (fI64 (by omega) (by omega))) ?_
  refine hcons (kIdxE (i := 5) (isX rfl) (isZ (m := 5) rfl) (denX rfl) rfl (by first | omega | (simp only [List.length_append, List.length_cons, List.length_nil, List.length_take, List.length_drop, Int.natCast_add] at *; omega)) (bt_at rfl (by omega) (by omega))) ?_
  refine hcons (kConvF (isX rfl) tu3 (denX rfl) (fI64 (by omega) (by omega))) ?_
  refine hcons (kAdd (isX rfl) (isX rfl) (denX rfl) rfl (fI64 (by omega) (by omega))) ?_
  refine hcons (kIdxE (i := 6) (isX rfl) (isZ (m := 6) rfl) (denZ (m := 0) rfl) rfl (by first | omega | (simp only [List.length_append, List.length_cons, List.length_nil, List.length_take, List.length_drop, Int.natCast_add] at *; omega)) (bt_at rfl (by omega) (by omega))) ?_
  refine hcons (kAdd (isX rfl) (isZ (m := 0) rfl) (denX rfl) rfl (fI64 (by omega) (by omega))) ?_
  refine hcons (kLt (isX rfl) (isX rfl) (decide_eq_false (by omega))) ?_
  refine hcons (kIdxE (i := 1) (isX rfl) (isZ (m := 1) rfl) (denX rfl) rfl (by first | omega | (simp only [List.length_append, List.length_cons, List.length_nil, List.length_take, List.length_drop, Int.natCast_add] at *; omega)) (bt_at rfl (by omega) (by omega))) ?_
  refine hcons (kEqI (isX rfl) (isZ (m := 0) rfl) (decide_eq_false (by omega))) ?_
  refine hcons (kConvF (isX rfl) tu3 (denX rfl) (fI64 (by omega) (by omega))) ?_
  refine hcons (kIdxE (i := 2) (isX rfl) (isZ (m := 2) rfl) (denX rfl) rfl (by first | omega | (simp only [List.length_append, List.length_cons, List.length_nil, List.length_take, List.length_drop, Int.natCast_add] at *; omega)) (bt_at rfl (by omega) (by omega))) ?_
  refine hcons (kConvF (isX rfl) tu3 (denX rfl) (fI64 (by omega) (by omega))) ?_
  refine hcons (kShlM 8 256 rfl (isX rfl) (isZ (m := 8) rfl) (denX rfl) rfl (by decide) rfl (fI64 (by omega) (by omega))) ?_
  refine hcons (kIdxE (i := 3) (isX rfl) (isZ (m := 3) rfl) (denX rfl) rfl (by first | omega | (simp only [List.length_append, List.length_cons, List.length_nil, List.length_take, List.length_drop, Int.natCast_add] at *; omega)) (bt_at rfl (by omega) (by omega))) ?_
  refine hcons (kConvF (isX rfl) tu3 (denX rfl) (fI64 (by omega) (by omega))) ?_
  refine hcons (kOrM 8 256 rfl (isX rfl) (isX rfl) (denX rfl) (by omega) (by omega) (fI64 (by omega) (by omega)) (fI64 (by omega) (by omega)) (by omega) (by omega) rfl (fI64 (by omega) (by omega))) ?_
  refine hcons (kSub (isX rfl) (isZ (m := 0) rfl) (denX rfl) rfl (fI64 (by omega) (by omega))) ?_
  refine hcons (kCut (isX rfl) (.inr ⟨_, _, rfl, (isZ (m := 8) rfl)⟩) (.inr ⟨_, _, rfl, (isX rfl)⟩) (p := [u8 1, u8 (t), u8 (id / 256), u8 (id % 256), u8 ((((c.length : Int)) / 256) % 256), u8 (((c.length : Int)) % 256), u8 0, u8 0]) (m := c) (q := more) (by first | rfl | (simp only [List.append_assoc, List.cons_append, List.nil_append, List.append_nil]; done)) (by first | omega | (simp only [List.length_append, List.length_cons, List.length_nil, List.length_take, List.length_drop, Int.natCast_add] at *; omega)) (by first | omega | (simp only [List.length_append, List.length_cons, List.length_nil, List.length_take, List.length_drop, Int.natCast_add] at *; omega)) (denX rfl)) ?_
  refine hcons (kCut (isX rfl) (.inr ⟨_, _, rfl, (isX rfl)⟩) (.inl ⟨rfl, rfl⟩) (p := ([u8 1, u8 (t), u8 (id / 256), u8 (id % 256), u8 ((((c.length : Int)) / 256) % 256), u8 (((c.length : Int)) % 256), u8 0, u8 0] ++ c)) (m := more) (q := ([] : List UInt8)) (by first | rfl | (simp only [List.append_assoc, List.cons_append, List.nil_append, List.append_nil]; done)) (by first | omega | (simp only [List.length_append, List.length_cons, List.length_nil, List.length_take, List.length_drop, Int.natCast_add] at *; omega)) (by first | omega | (simp only [List.length_append, List.length_cons, List.length_nil, List.length_take, List.length_drop, Int.natCast_add] at *; omega)) (denX rfl)) ?_
  refine hcons (kConvF (isX rfl) tu3 (denX rfl) (fI64 (by omega) (by omega))) ?_
  refine hcons (kRem (isX rfl) (isX rfl) (denX rfl) (by omega) (by omega) rfl) ?_
  refine hcons (kTake (isX rfl) (isX rfl) (by first | omega | (simp only [List.length_append, List.length_cons, List.length_nil, List.length_take, List.length_drop, Int.natCast_add] at *; omega)) (by first | omega | (simp only [List.length_append, List.length_cons, List.length_nil, List.length_take, List.length_drop, Int.natCast_add] at *; omega)) (denX rfl)) ?_
  refine hcons (kNeS (isX rfl) (isSx (l := ([] : List UInt8)) 0 0 rfl) (bnT (by first | exact nilT (by first | omega | (simp only [List.length_append, List.length_cons, List.length_nil, List.length_take, List.length_drop, Int.natCast_add] at *; omega)) | exact nilF (by first | omega | (simp only [List.length_append, List.length_cons, List.length_nil, List.length_take, List.length_drop, Int.natCast_add] at *; omega)) | exact nilT' (by first | omega | (simp only [List.length_append, List.length_cons, List.length_nil, List.length_take, List.length_drop, Int.natCast_add] at *; omega)) | exact nilF' (by first | omega | (simp only [List.length_append, List.length_cons, List.length_nil, List.length_take, List.length_drop, Int.natCast_add] at *; omega))))) ?_
  refine hcons (kIdxE (i := 0) (isX rfl) (isZ (m := 0) rfl) (denZ (m := 1) rfl) rfl (by first | omega | (simp only [List.length_append, List.length_cons, List.length_nil, List.length_take, List.length_drop, Int.natCast_add] at *; omega)) ((bt_take (by omega)).trans (bt_at rfl (by omega) (by omega)))) ?_
  refine hcons (kLenE (isX rfl) (denX rfl) (by first | omega | (simp only [List.length_append, List.length_cons, List.length_nil, List.length_take, List.length_drop, Int.natCast_add] at *; omega))) ?_
  refine hcons (kLt (isX rfl) (isZ (m := 8) rfl) (decide_eq_true (by omega))) ?_
  refine hcons (kEqT (isX rfl) (isX rfl) tu3 (decide_eq_true (by omega))) ?_
  refine hcons (kEqT (isX rfl) (isX rfl) tu3 (decide_eq_true (by omega))) ?_
  refine hcons (kEqTS (isX rfl) (isX rfl) tu9 (decide_eq_true rfl)) ?_
  refine hcons (kEqS (isX rfl) (isX rfl) (decide_eq_true rfl)) ?_
  exact hnil
theorem path25 (t : Int) (id : Int) (c : List UInt8) (more : List UInt8) (cut : Int) (b0 : 0 ≤ t) (b1 : t ≤ 255) (b2 : 0 ≤ id) (b3 : id ≤ 65535) (b4 : c.length ≤ 9223372036854775807) (b5 : more.length ≤ 9223372036854775807) (b6 : 0 ≤ cut) (b7 : cut ≤ 65535) (h0 : ¬ (2000 < (c.length : Int))) (h1 : ¬ (200 < (more.length : Int))) (h2 : ¬ (t = 0)) (h3 : (-(max ((c.length : Int)) 0)) % 8 = 0) (h15 : ¬ ((cut % ((c.length : Int) + 8)) = 0)) (h16 : (cut % ((c.length : Int) + 8)) < 8) (w : World) (hl : laidE w) : Calls Try.prog 3 #[.int .u8 t, .int .u16 id, St' c, .bool true, St' more, .int .u16 cut] w fun e w' => e = .returned (.bool true) ∧ Go.AX.Below w.heap.size w w' := by
  obtain ⟨fi, hfi, hb⟩ : ∃ fi, tabk.fn.get 3 = some fi ∧ fi.body.isSome = true := ⟨_, rfl, by kernel_rfl⟩
  exact runP (tb := tab25) ((tabkOk (nuL (nu25 t id c more cut)) (one25 t id c more cut)).hyps (hyOk25 t id c more cut b0 b1 b2 b3 b4 b5 b6 b7 h0 h1 h2 h3 h15 h16)) rfl hfi hb (run25 ) (args := [.int .u8 t, .int .u16 id, St' c, .bool true, St' more, .int .u16 cut]) (by simp only [RelL, Rel]; exact ⟨_, _, rfl, rfl, ⟨_, _, rfl, rfl, ⟨_, _, rfl, rfl, ⟨_, _, rfl, rfl, ⟨_, _, rfl, rfl, ⟨_, _, rfl, rfl, rfl⟩⟩⟩⟩⟩⟩) w hl
def hy26 : List (HK × AV) := [(.len (.x 2), .x 5),
  (.bin .gtr (.x 5) (.i .i64 (.ofNat 2000)), .b false),
  (.len (.x 3), .x 6),
  (.bin .gtr (.x 6) (.i .i64 (.ofNat 200)), .b false),
  (.bin .eql (.x 0) (.i .u8 (.ofNat 0)), .b false),
  (.conv 3 (.x 0), .x 7),
  (.conv 3 (.x 1), .x 8),
  (.mm true (.x 5) (.i .i64 (.ofNat 0)), .x 9),
  (.un .neg (.x 9), .x 10),
  (.bin .and (.x 10) (.i .i64 (.ofNat 7)), .i .i64 (.ofNat 0)),
  (.bin .geq (.x 7) (.i .i64 (.ofNat 1)), .b true),
  (.bin .leq (.x 7) (.i .i64 (.ofNat 255)), .b true),
  (.bin .geq (.x 8) (.i .i64 (.ofNat 0)), .b true),
  (.bin .leq (.x 8) (.i .i64 (.ofNat 65535)), .b true),
  (.bin .leq (.x 5) (.i .i64 (.ofNat 65535)), .b true),
  (.conv 5 (.x 7), .x 11),
  (.bin .shr (.x 8) (.i .u64 (.ofNat 8)), .x 12),
  (.conv 5 (.x 12), .x 13),
  (.conv 5 (.x 8), .x 14),
  (.bin .shr (.x 5) (.i .u64 (.ofNat 8)), .x 15),
  (.conv 5 (.x 15), .x 16),
  (.conv 5 (.x 5), .x 17),
  (.bytes [.i .u8 (.ofNat 1), .x 11, .x 13, .x 14, .x 16, .x 17, .i .u8 (.ofNat 0), .i .u8 (.ofNat 0)], .x 18),
  (.bin .add (.x 18) (.x 2), .x 19),
  (.bin .add (.x 19) (.s 0 0), .x 20),
  (.len (.x 20), .x 21),
  (.bin .lss (.x 21) (.i .i64 (.ofNat 8)), .b false),
  (.bin .rem (.x 21) (.i .i64 (.ofNat 8)), .x 22),
  (.bin .neq (.x 22) (.i .i64 (.ofNat 0)), .b false),
  (.bin .add (.x 20) (.x 3), .x 23),
  (.bin .neq (.x 23) (.s 0 0), .b true),
  (.idx (.x 23) (.i .i64 (.ofNat 0)), .i .u8 (.ofNat 1)),
  (.len (.x 23), .x 24),
  (.bin .lss (.x 24) (.i .i64 (.ofNat 8)), .b false),
  (.idx (.x 23) (.i .i64 (.ofNat 4)), .x 25),
  (.conv 3 (.x 25), .x 26),
  (.bin .shl (.x 26) (.i .u64 (.ofNat 8)), .x 27),
  (.bin .add (.i .i64 (.ofNat 8)) (.x 27), .x 28),
  (.idx (.x 23) (.i .i64 (.ofNat 5)), .x 29),
  (.conv 3 (.x 29), .x 30),
  (.bin .add (.x 28) (.x 30), .x 31),
  (.idx (.x 23) (.i .i64 (.ofNat 6)), .i .u8 (.ofNat 0)),
  (.bin .add (.x 31) (.i .i64 (.ofNat 0)), .x 32),
  (.bin .lss (.x 24) (.x 32), .b false),
  (.idx (.x 23) (.i .i64 (.ofNat 1)), .x 33),
  (.bin .eql (.x 33) (.i .u8 (.ofNat 0)), .b false),
  (.conv 3 (.x 33), .x 34),
  (.idx (.x 23) (.i .i64 (.ofNat 2)), .x 35),
  (.conv 3 (.x 35), .x 36),
  (.bin .shl (.x 36) (.i .u64 (.ofNat 8)), .x 37),
  (.idx (.x 23) (.i .i64 (.ofNat 3)), .x 38),
  (.conv 3 (.x 38), .x 39),
  (.bin .or (.x 37) (.x 39), .x 40),
  (.bin .sub (.x 32) (.i .i64 (.ofNat 0)), .x 41),
  (.sub (.x 23) (some (.i .i64 (.ofNat 8))) (some (.x 41)), .x 42),
  (.sub (.x 23) (some (.x 32)) none, .x 43),
  (.conv 3 (.x 4), .x 44),
  (.bin .rem (.x 44) (.x 21), .x 45),
  (.sub (.x 20) none (some (.x 45)), .x 46),
  (.bin .neq (.x 46) (.s 0 0), .b true),
  (.idx (.x 46) (.i .i64 (.ofNat 0)), .i .u8 (.ofNat 1)),
  (.len (.x 46), .x 47),
  (.bin .lss (.x 47) (.i .i64 (.ofNat 8)), .b false),
  (.idx (.x 46) (.i .i64 (.ofNat 4)), .x 48),
  (.conv 3 (.x 48), .x 49),
  (.bin .shl (.x 49) (.i .u64 (.ofNat 8)), .x 50),
  (.bin .add (.i .i64 (.ofNat 8)) (.x 50), .x 51),
  (.idx (.x 46) (.i .i64 (.ofNat 5)), .x 52),
  (.conv 3 (.x 52), .x 53),
  (.bin .add (.x 51) (.x 53), .x 54),
  (.idx (.x 46) (.i .i64 (.ofNat 6)), .i .u8 (.ofNat 0)),
  (.bin .add (.x 54) (.i .i64 (.ofNat 0)), .x 55),
  (.bin .lss (.x 47) (.x 55), .b true),
  (.eq 3 (.x 34) (.x 7), .b true),
  (.eq 3 (.x 40) (.x 8), .b true),
  (.eq 9 (.x 42) (.x 2), .b true),
  (.bin .eql (.x 43) (.x 3), .b true)]
noncomputable def tab26 : Tab := { tabk with hyp := hy26 }
theorem run26 : okB (call tab26 9000 3 [.x 0, .x 1, .x 2, .b true, .x 3, .x 4] ⟨H0 , 1, 0, 0⟩) = true := by kernel_rfl
def nu26 (t : Int) (id : Int) (c : List UInt8) (more : List UInt8) (cut : Int) : List Value := [.int .u8 (t),
  .int .u16 (id),
  St' c,
  St' more,
  .int .u16 (cut),
  .int .i64 ((c.length : Int)),
  .int .i64 ((more.length : Int)),
  .int .i64 (t),
  .int .i64 (id),
  .int .i64 (max ((c.length : Int)) 0),
  .int .i64 (-(max ((c.length : Int)) 0)),
  .int .u8 (t),
  .int .i64 (id / 256),
  .int .u8 (id / 256),
  .int .u8 (id % 256),
  .int .i64 (((c.length : Int)) / 256),
  .int .u8 ((((c.length : Int)) / 256) % 256),
  .int .u8 (((c.length : Int)) % 256),
  St' ([u8 1, u8 (t), u8 (id / 256), u8 (id % 256), u8 ((((c.length : Int)) / 256) % 256), u8 (((c.length : Int)) % 256), u8 0, u8 0]),
  St' (([u8 1, u8 (t), u8 (id / 256), u8 (id % 256), u8 ((((c.length : Int)) / 256) % 256), u8 (((c.length : Int)) % 256), u8 0, u8 0] ++ c)),
  St' (([u8 1, u8 (t), u8 (id / 256), u8 (id % 256), u8 ((((c.length : Int)) / 256) % 256), u8 (((c.length : Int)) % 256), u8 0, u8 0] ++ c)),
  .int .i64 ((c.length : Int) + 8),
  .int .i64 (((c.length : Int) + 8) % 8),
  St' (([u8 1, u8 (t), u8 (id / 256), u8 (id % 256), u8 ((((c.length : Int)) / 256) % 256), u8 (((c.length : Int)) % 256), u8 0, u8 0] ++ (c ++ more))),
  .int .i64 ((c.length : Int) + (more.length : Int) + 8),
  .int .u8 ((((c.length : Int)) / 256) % 256),
  .int .i64 ((((c.length : Int)) / 256) % 256),
  .int .i64 (((((c.length : Int)) / 256) % 256) * 256),
  .int .i64 (8 + (((((c.length : Int)) / 256) % 256) * 256)),
  .int .u8 (((c.length : Int)) % 256),
  .int .i64 (((c.length : Int)) % 256),
  .int .i64 ((8 + (((((c.length : Int)) / 256) % 256) * 256)) + (((c.length : Int)) % 256)),
  .int .i64 (((8 + (((((c.length : Int)) / 256) % 256) * 256)) + (((c.length : Int)) % 256)) + 0),
  .int .u8 (t),
  .int .i64 (t),
  .int .u8 (id / 256),
  .int .i64 (id / 256),
  .int .i64 ((id / 256) * 256),
  .int .u8 (id % 256),
  .int .i64 (id % 256),
  .int .i64 (((id / 256) * 256) + (id % 256)),
  .int .i64 ((((8 + (((((c.length : Int)) / 256) % 256) * 256)) + (((c.length : Int)) % 256)) + 0) - 0),
  St' c,
  St' more,
  .int .i64 (cut),
  .int .i64 (cut % ((c.length : Int) + 8)),
  St' ((List.take (cut % ((c.length : Int) + 8)).toNat (([u8 1, u8 (t), u8 (id / 256), u8 (id % 256), u8 ((((c.length : Int)) / 256) % 256), u8 (((c.length : Int)) % 256), u8 0, u8 0] ++ c)))),
  .int .i64 ((cut % ((c.length : Int) + 8))),
  .int .u8 ((((c.length : Int)) / 256) % 256),
  .int .i64 ((((c.length : Int)) / 256) % 256),
  .int .i64 (((((c.length : Int)) / 256) % 256) * 256),
  .int .i64 (8 + (((((c.length : Int)) / 256) % 256) * 256)),
  .int .u8 (((c.length : Int)) % 256),
  .int .i64 (((c.length : Int)) % 256),
  .int .i64 ((8 + (((((c.length : Int)) / 256) % 256) * 256)) + (((c.length : Int)) % 256)),
  .int .i64 (((8 + (((((c.length : Int)) / 256) % 256) * 256)) + (((c.length : Int)) % 256)) + 0)]
theorem one26 (t : Int) (id : Int) (c : List UInt8) (more : List UInt8) (cut : Int) : ∀ j, (nuL (nu26 t id c more cut) j).oneCell' = true := nuL_one (l := nu26 t id c more cut) rfl
set_option maxHeartbeats 2000000 in
theorem hyOk26 (t : Int) (id : Int) (c : List UInt8) (more : List UInt8) (cut : Int) (b0 : 0 ≤ t) (b1 : t ≤ 255) (b2 : 0 ≤ id) (b3 : id ≤ 65535) (b4 : c.length ≤ 9223372036854775807) (b5 : more.length ≤ 9223372036854775807) (b6 : 0 ≤ cut) (b7 : cut ≤ 65535) (h0 : ¬ (2000 < (c.length : Int))) (h1 : ¬ (200 < (more.length : Int))) (h2 : ¬ (t = 0)) (h3 : (-(max ((c.length : Int)) 0)) % 8 = 0) (h15 : ¬ ((cut % ((c.length : Int) + 8)) = 0)) (h16 : ¬ ((cut % ((c.length : Int) + 8)) < 8)) : ∀ k r, (k, r) ∈ hy26 → HOk (cx (nuL (nu26 t id c more cut)) (one26 t id c more cut) 0 laidE laidE_stab) k r := by
  have := Int.emod_nonneg cut (show ((c.length : Int) + 8) ≠ 0 by omega); have := Int.emod_lt_of_pos cut (show 0 < ((c.length : Int) + 8) by omega)
  unfold hy26
  refine hcons (kLenE (isX rfl) (denX rfl) (by first | omega | (simp only [List.length_append, List.length_cons, List.length_nil, List.length_take, List.length_drop, Int.natCast_add] at *; omega))) ?_
  refine hcons (kGt (isX rfl) (isZ (m := 2000) rfl) (decide_eq_false (by omega))) ?_
  refine hcons (kLenE (isX rfl) (denX rfl) (by first | omega | (simp only [List.length_append, List.length_cons, List.length_nil, List.length_take, List.length_drop, Int.natCast_add] at *; omega))) ?_
  refine hcons (kGt (isX rfl) (isZ (m := 200) rfl) (decide_eq_false (by omega))) ?_
  refine hcons (kEqI (isX rfl) (isZ (m := 0) rfl) (decide_eq_false (by omega))) ?_
  refine hcons (kConvF (isX rfl) tu3 (denX rfl) (fI64 (by omega) (by omega))) ?_
  refine hcons (kConvF (isX rfl) tu3 (denX rfl) (fI64 (by omega) (by omega))) ?_
  refine hcons (kMax (isX rfl) (isZ (m := 0) rfl) (denX rfl) rfl) ?_
  refine hcons (kNeg (isX rfl) (denX rfl) rfl (fI64 (by omega) (by omega))) ?_
  refine hcons (kAndG 3 8 rfl (by decide) (isX rfl) (isZ (m := 7) rfl) (denZ (m := 0) rfl) (fI64 (by omega) (by omega)) rfl (by omega) (fI64 (by omega) (by omega))) ?_
  refine hcons (kGe (isX rfl) (isZ (m := 1) rfl) (decide_eq_true (by omega))) ?_
  refine hcons (kLe (isX rfl) (isZ (m := 255) rfl) (decide_eq_true (by omega))) ?_
  refine hcons (kGe (isX rfl) (isZ (m := 0) rfl) (decide_eq_true (by omega))) ?_
  refine hcons (kLe (isX rfl) (isZ (m := 65535) rfl) (decide_eq_true (by omega))) ?_
  refine hcons (kLe (isX rfl) (isZ (m := 65535) rfl) (decide_eq_true (by omega))) ?_
  refine hcons (kConvF (isX rfl) tu5 (denX rfl) (fU8 (by omega) (by omega))) ?_
  refine hcons (kShrM 8 256 rfl (isX rfl) (isZ (m := 8) rfl) (denX rfl) rfl (by decide) (by omega) rfl) ?_
  refine hcons (kConvF (isX rfl) tu5 (denX rfl) (fU8 (by omega) (by omega))) ?_
  refine hcons (kConv8 (isX rfl) tu5 (denX rfl) rfl) ?_
  refine hcons (kShrM 8 256 rfl (isX rfl) (isZ (m := 8) rfl) (denX rfl) rfl (by decide) (by omega) rfl) ?_
  refine hcons (kConv8 (isX rfl) tu5 (denX rfl) rfl) ?_
  refine hcons (kConv8 (isX rfl) tu5 (denX rfl) rfl) ?_
  refine hcons (kBytesB (bs := [u8 1, u8 (t), u8 (id / 256), u8 (id % 256), u8 ((((c.length : Int)) / 256) % 256), u8 (((c.length : Int)) % 256), u8 0, u8 0]) (.cons (isB8 (isZ (m := 1) rfl) (by omega) (by omega)) (.cons (isB8 (isX rfl) (by omega) (by omega)) (.cons (isB8 (isX rfl) (by omega) (by omega)) (.cons (isB8 (isX rfl) (by omega) (by omega)) (.cons (isB8 (isX rfl) (by omega) (by omega)) (.cons (isB8 (isX rfl) (by omega) (by omega)) (.cons (isB8 (isZ (m := 0) rfl) (by omega) (by omega)) (.cons (isB8 (isZ (m := 0) rfl) (by omega) (by omega)) .nil)))))))) (denX rfl)) ?_
  refine hcons (kCat (isX rfl) (isX rfl) (denX rfl) (by first | rfl | (simp only [List.append_assoc, List.cons_append, List.nil_append, List.append_nil]; done)) (by first | omega | (simp only [List.length_append, List.length_cons, List.length_nil, List.length_take, List.length_drop, Int.natCast_add] at *; omega))) ?_
  refine hcons (kCat (isX rfl) (isSx (l := ([] : List UInt8)) 0 0 rfl) (denX rfl) (by first | rfl | (simp only [List.append_assoc, List.cons_append, List.nil_append, List.append_nil]; done)) (by first | omega | (simp only [List.length_append, List.length_cons, List.length_nil, List.length_take, List.length_drop, Int.natCast_add] at *; omega))) ?_
  refine hcons (kLenE (isX rfl) (denX rfl) (by first | omega | (simp only [List.length_append, List.length_cons, List.length_nil, List.length_take, List.length_drop, Int.natCast_add] at *; omega))) ?_
  refine hcons (kLt (isX rfl) (isZ (m := 8) rfl) (decide_eq_false (by omega))) ?_
  refine hcons (kRem (isX rfl) (isZ (m := 8) rfl) (denX rfl) (by omega) (by omega) rfl) ?_
  refine hcons (kNeI (isX rfl) (isZ (m := 0) rfl) (neF (by omega))) ?_
  refine hcons (kCat (isX rfl) (isX rfl) (denX rfl) (by first | rfl | (simp only [List.append_assoc, List.cons_append, List.nil_append, List.append_nil]; done)) (by first | omega | (simp only [List.length_append, List.length_cons, List.length_nil, List.length_take, List.length_drop, Int.natCast_add] at *; omega))) ?_
  refine hcons (kNeS (isX rfl) (isSx (l := ([] : List UInt8)) 0 0 rfl) (bnT (by first | exact nilT (by first | omega | (simp only [List.length_append, List.length_cons, List.length_nil, List.length_take, List.length_drop, Int.natCast_add] at *; omega)) | exact nilF (by first | omega | (simp only [List.length_append, List.length_cons, List.length_nil, List.length_take, List.length_drop, Int.natCast_add] at *; omega)) | exact nilT' (by first | omega | (simp only [List.length_append, List.length_cons, List.length_nil, List.length_take, List.length_drop, Int.natCast_add] at *; omega)) | exact nilF' (by first | omega | (simp only [List.length_append, List.length_cons, List.length_nil, List.length_take, List.length_drop, Int.natCast_add] at *; omega))))) ?_
  refine hcons (kIdxE (i := 0) (isX rfl) (isZ (m := 0) rfl) (denZ (m := 1) rfl) rfl (by first | omega | (simp only [List.length_append, List.length_cons, List.length_nil, List.length_take, List.length_drop, Int.natCast_add] at *; omega)) (bt_at rfl (by omega) (by omega))) ?_
  refine hcons (kLenE (isX rfl) (denX rfl) (by first | omega | (simp only [List.length_append, List.length_cons, List.length_nil, List.length_take, List.length_drop, Int.natCast_add] at *; omega))) ?_
  refine hcons (kLt (isX rfl) (isZ (m := 8) rfl) (decide_eq_false (by omega))) ?_
  refine hcons (kIdxE (i := 4) (isX rfl) (isZ (m := 4) rfl) (denX rfl) rfl (by first | omega | (simp only [List.length_append, List.length_cons, List.length_nil, List.length_take, List.length_drop, Int.natCast_add] at *; omega)) (bt_at rfl (by omega) (by omega))) ?_
  refine hcons (kConvF (isX rfl) tu3 (denX rfl) (fI64 (by omega) (by omega))) ?_
  refine hcons (kShlM 8 256 rfl (isX rfl) (isZ (m := 8) rfl) (denX rfl) rfl (by decide) rfl (fI64 (by omega) (by omega))) ?_
  refine hcons (kAdd (isZ (m := 8) rfl) (isX rfl) (denX rfl) rfl (fI64 (by omega) (by omega))) ?_
  refine hcons (kIdxE (i := 5) (isX rfl) (isZ (m := 5) rfl) (denX rfl) rfl (by first | omega | (simp only [List.length_append, List.length_cons, List.length_nil, List.length_take, List.length_drop, Int.natCast_add] at *; omega)) (bt_at rfl (by omega) (by omega))) ?_
  refine hcons (kConvF (isX rfl) tu3 (denX rfl) (fI64 (by omega) (by omega))) ?_
  refine hcons (kAdd (isX rfl) (isX rfl) (denX rfl) rfl (fI64 (by omega) (by omega))) ?_
  refine hcons (kIdxE (i := 6) (isX rfl) (isZ (m := 6) rfl) (denZ (m := 0) rfl) rfl (by first | omega | (simp only [List.length_append, List.length_cons, List.length_nil, List.length_take, List.length_drop, Int.natCast_add] at *; omega)) (bt_at rfl (by omega) (by omega))) ?_
  refine hcons (kAdd (isX rfl) (isZ (m := 0) rfl) (denX rfl) rfl (fI64 (by omega) (by omega))) ?_
  refine hcons (kLt (isX rfl) (isX rfl) (decide_eq_false (by omega))) ?_
  refine hcons (kIdxE (i := 1) (isX rfl) (isZ (m := 1) rfl) (denX rfl) rfl (by first | omega | (simp only [List.length_append, List.length_cons, List.length_nil, List.length_take, List.length_drop, Int.natCast_add] at *; omega)) (bt_at rfl (by omega) (by omega))) ?_
  refine hcons (kEqI (isX rfl) (isZ (m := 0) rfl) (decide_eq_false (by omega))) ?_
  refine hcons (kConvF (isX rfl) tu3 (denX rfl) (fI64 (by omega) (by omega))) ?_
  refine hcons (kIdxE (i := 2) (isX rfl) (isZ (m := 2) rfl) (denX rfl) rfl (by first | omega | (simp only [List.length_append, List.length_cons, List.length_nil, List.length_take, List.length_drop, Int.natCast_add] at *; omega)) (bt_at rfl (by omega) (by omega))) ?_
  refine hcons (kConvF (isX rfl) tu3 (denX rfl) (fI64 (by omega) (by omega))) ?_
  refine hcons (kShlM 8 256 rfl (isX rfl) (isZ (m := 8) rfl) (denX rfl) rfl (by decide) rfl (fI64 (by omega) (by omega))) ?_
  refine hcons (kIdxE (i := 3) (isX rfl) (isZ (m := 3) rfl) (denX rfl) rfl (by first | omega | (simp only [List.length_append, List.length_cons, List.length_nil, List.length_take, List.length_drop, Int.natCast_add] at *; omega)) (bt_at rfl (by omega) (by omega))) ?_
  refine hcons (kConvF (isX rfl) tu3 (denX rfl) (fI64 (by omega) (by omega))) ?_
  refine hcons (kOrM 8 256 rfl (isX rfl) (isX rfl) (denX rfl) (by omega) (by omega) (fI64 (by omega) (by omega)) (fI64 (by omega) (by omega)) (by omega) (by omega) rfl (fI64 (by omega) (by omega))) ?_
  refine hcons (kSub (isX rfl) (isZ (m := 0) rfl) (denX rfl) rfl (fI64 (by omega) (by omega))) ?_
  refine hcons (kCut (isX rfl) (.inr ⟨_, _, rfl, (isZ (m := 8) rfl)⟩) (.inr ⟨_, _, rfl, (isX rfl)⟩) (p := [u8 1, u8 (t), u8 (id / 256), u8 (id % 256), u8 ((((c.length : Int)) / 256) % 256), u8 (((c.length : Int)) % 256), u8 0, u8 0]) (m := c) (q := more) (by first | rfl | (simp only [List.append_assoc, List.cons_append, List.nil_append, List.append_nil]; done)) (by first | omega | (simp only [List.length_append, List.length_cons, List.length_nil, List.length_take, List.length_drop, Int.natCast_add] at *; omega)) (by first | omega | (simp only [List.length_append, List.length_cons, List.length_nil, List.length_take, List.length_drop, Int.natCast_add] at *; omega)) (denX rfl)) ?_
  refine hcons (kCut (isX rfl) (.inr ⟨_, _, rfl, (isX rfl)⟩) (.inl ⟨rfl, rfl⟩) (p := ([u8 1, u8 (t), u8 (id / 256), u8 (id % 256), u8 ((((c.length : Int)) / 256) % 256), u8 (((c.length : Int)) % 256), u8 0, u8 0] ++ c)) (m := more) (q := ([] : List UInt8)) (by first | rfl | (simp only [List.append_assoc, List.cons_append, List.nil_append, List.append_nil]; done)) (by first | omega | (simp only [List.length_append, List.length_cons, List.length_nil, List.length_take, List.length_drop, Int.natCast_add] at *; omega)) (by first | omega | (simp only [List.length_append, List.length_cons, List.length_nil, List.length_take, List.length_drop, Int.natCast_add] at *; omega)) (denX rfl)) ?_
  refine hcons (kConvF (isX rfl) tu3 (denX rfl) (fI64 (by omega) (by omega))) ?_
  refine hcons (kRem (isX rfl) (isX rfl) (denX rfl) (by omega) (by omega) rfl) ?_
  refine hcons (kTake (isX rfl) (isX rfl) (by first | omega | (simp only [List.length_append, List.length_cons, List.length_nil, List.length_take, List.length_drop, Int.natCast_add] at *; omega)) (by first | omega | (simp only [List.length_append, List.length_cons, List.length_nil, List.length_take, List.length_drop, Int.natCast_add] at *; omega)) (denX rfl)) ?_
  refine hcons (kNeS (isX rfl) (isSx (l := ([] : List UInt8)) 0 0 rfl) (bnT (by first | exact nilT (by first | omega | (simp only [List.length_append, List.length_cons, List.length_nil, List.length_take, List.length_drop, Int.natCast_add] at *; omega)) | exact nilF (by first | omega | (simp only [List.length_append, List.length_cons, List.length_nil, List.length_take, List.length_drop, Int.natCast_add] at *; omega)) | exact nilT' (by first | omega | (simp only [List.length_append, List.length_cons, List.length_nil, List.length_take, List.length_drop, Int.natCast_add] at *; omega)) | exact nilF' (by first | omega | (simp only [List.length_append, List.length_cons, List.length_nil, List.length_take, List.length_drop, Int.natCast_add] at *; omega))))) ?_
  refine hcons (kIdxE (i := 0) (isX rfl) (isZ (m := 0) rfl) (denZ (m := 1) rfl) rfl (by first | omega | (simp only [List.length_append, List.length_cons, List.length_nil, List.length_take, List.length_drop, Int.natCast_add] at *; omega)) ((bt_take (by omega)).trans (bt_at rfl (by omega) (by omega)))) ?_
  refine hcons (kLenE (isX rfl) (denX rfl) (by first | omega | (simp only [List.length_append, List.length_cons, List.length_nil, List.length_take, List.length_drop, Int.natCast_add] at *; omega))) ?_
  refine hcons (kLt (isX rfl) (isZ (m := 8) rfl) (decide_eq_false (by omega))) ?_
  refine hcons (kIdxE (i := 4) (isX rfl) (isZ (m := 4) rfl) (denX rfl) rfl (by first | omega | (simp only [List.length_append, List.length_cons, List.length_nil, List.length_take, List.length_drop, Int.natCast_add] at *; omega)) ((bt_take (by omega)).trans (bt_at rfl (by omega) (by omega)))) ?_
  refine hcons (kConvF (isX rfl) tu3 (denX rfl) (fI64 (by omega) (by omega))) ?_
  refine hcons (kShlM 8 256 rfl (isX rfl) (isZ (m := 8) rfl) (denX rfl) rfl (by decide) rfl (fI64 (by omega) (by omega))) ?_
  refine hcons (kAdd (isZ (m := 8) rfl) (isX rfl) (denX rfl) rfl (fI64 (by omega) (by omega))) ?_
  refine hcons (kIdxE (i := 5) (isX rfl) (isZ (m := 5) rfl) (denX rfl) rfl (by first | omega | (simp only [List.length_append, List.length_cons, List.length_nil, List.length_take, List.length_drop, Int.natCast_add] at *; omega)) ((bt_take (by omega)).trans (bt_at rfl (by omega) (by omega)))) ?_
  refine hcons (kConvF (isX rfl) tu3 (denX rfl) (fI64 (by omega) (by omega))) ?_
  refine hcons (kAdd (isX rfl) (isX rfl) (denX rfl) rfl (fI64 (by omega) (by omega))) ?_
  refine hcons (kIdxE (i := 6) (isX rfl) (isZ (m := 6) rfl) (denZ (m := 0) rfl) rfl (by first | omega | (simp only [List.length_append, List.length_cons, List.length_nil, List.length_take, List.length_drop, Int.natCast_add] at *; omega)) ((bt_take (by omega)).trans (bt_at rfl (by omega) (by omega)))) ?_
  refine hcons (kAdd (isX rfl) (isZ (m := 0) rfl) (denX rfl) rfl (fI64 (by omega) (by omega))) ?_
  refine hcons (kLt (isX rfl) (isX rfl) (decide_eq_true (by omega))) ?_
  refine hcons (kEqT (isX rfl) (isX rfl) tu3 (decide_eq_true (by omega))) ?_
  refine hcons (kEqT (isX rfl) (isX rfl) tu3 (decide_eq_true (by omega))) ?_
  refine hcons (kEqTS (isX rfl) (isX rfl) tu9 (decide_eq_true rfl)) ?_
  refine hcons (kEqS (isX rfl) (isX rfl) (decide_eq_true rfl)) ?_
  exact hnil
theorem path26 (t : Int) (id : Int) (c : List UInt8) (more : List UInt8) (cut : Int) (b0 : 0 ≤ t) (b1 : t ≤ 255) (b2 : 0 ≤ id) (b3 : id ≤ 65535) (b4 : c.length ≤ 9223372036854775807) (b5 : more.length ≤ 9223372036854775807) (b6 : 0 ≤ cut) (b7 : cut ≤ 65535) (h0 : ¬ (2000 < (c.length : Int))) (h1 : ¬ (200 < (more.length : Int))) (h2 : ¬ (t = 0)) (h3 : (-(max ((c.length : Int)) 0)) % 8 = 0) (h15 : ¬ ((cut % ((c.length : Int) + 8)) = 0)) (h16 : ¬ ((cut % ((c.length : Int) + 8)) < 8)) (w : World) (hl : laidE w) : Calls Try.prog 3 #[.int .u8 t, .int .u16 id, St' c, .bool true, St' more, .int .u16 cut] w fun e w' => e = .returned (.bool true) ∧ Go.AX.Below w.heap.size w w' := by
  obtain ⟨fi, hfi, hb⟩ : ∃ fi, tabk.fn.get 3 = some fi ∧ fi.body.isSome = true := ⟨_, rfl, by kernel_rfl⟩
  exact runP (tb := tab26) ((tabkOk (nuL (nu26 t id c more cut)) (one26 t id c more cut)).hyps (hyOk26 t id c more cut b0 b1 b2 b3 b4 b5 b6 b7 h0 h1 h2 h3 h15 h16)) rfl hfi hb (run26 ) (args := [.int .u8 t, .int .u16 id, St' c, .bool true, St' more, .int .u16 cut]) (by simp only [RelL, Rel]; exact ⟨_, _, rfl, rfl, ⟨_, _, rfl, rfl, ⟨_, _, rfl, rfl, ⟨_, _, rfl, rfl, ⟨_, _, rfl, rfl, ⟨_, _, rfl, rfl, rfl⟩⟩⟩⟩⟩⟩) w hl
def hy27 : List (HK × AV) := [(.len (.x 2), .x 5),
  (.bin .gtr (.x 5) (.i .i64 (.ofNat 2000)), .b true)]
noncomputable def tab27 : Tab := { tabk with hyp := hy27 }
theorem run27 : okB (call tab27 9000 3 [.x 0, .x 1, .x 2, .b false, .x 3, .x 4] ⟨H0 , 1, 0, 0⟩) = true := by kernel_rfl
def nu27 (t : Int) (id : Int) (c : List UInt8) (more : List UInt8) (cut : Int) : List Value := [.int .u8 (t),
  .int .u16 (id),
  St' c,
  St' more,
  .int .u16 (cut),
  .int .i64 ((c.length : Int))]
theorem one27 (t : Int) (id : Int) (c : List UInt8) (more : List UInt8) (cut : Int) : ∀ j, (nuL (nu27 t id c more cut) j).oneCell' = true := nuL_one (l := nu27 t id c more cut) rfl
set_option maxHeartbeats 2000000 in
theorem hyOk27 (t : Int) (id : Int) (c : List UInt8) (more : List UInt8) (cut : Int) (b0 : 0 ≤ t) (b1 : t ≤ 255) (b2 : 0 ≤ id) (b3 : id ≤ 65535) (b4 : c.length ≤ 9223372036854775807) (b5 : more.length ≤ 9223372036854775807) (b6 : 0 ≤ cut) (b7 : cut ≤ 65535) (h0 : 2000 < (c.length : Int)) : ∀ k r, (k, r) ∈ hy27 → HOk (cx (nuL (nu27 t id c more cut)) (one27 t id c more cut) 0 laidE laidE_stab) k r := by
  unfold hy27
  refine hcons (kLenE (isX rfl) (denX rfl) (by first | omega | (simp only [List.length_append, List.length_cons, List.length_nil, List.length_take, List.length_drop, Int.natCast_add] at *; omega))) ?_
  refine hcons (kGt (isX rfl) (isZ (m := 2000) rfl) (decide_eq_true (by omega))) ?_
  exact hnil
theorem path27 (t : Int) (id : Int) (c : List UInt8) (more : List UInt8) (cut : Int) (b0 : 0 ≤ t) (b1 : t ≤ 255) (b2 : 0 ≤ id) (b3 : id ≤ 65535) (b4 : c.length ≤ 9223372036854775807) (b5 : more.length ≤ 9223372036854775807) (b6 : 0 ≤ cut) (b7 : cut ≤ 65535) (h0 : 2000 < (c.length : Int)) (w : World) (hl : laidE w) : Calls Try.prog 3 #[.int .u8 t, .int .u16 id, St' c, .bool false, St' more, .int .u16 cut] w fun e w' => e = .returned (.bool true) ∧ Go.AX.Below w.heap.size w w' := by
  obtain ⟨fi, hfi, hb⟩ : ∃ fi, tabk.fn.get 3 = some fi ∧ fi.body.isSome = true := ⟨_, rfl, by kernel_rfl⟩
  exact runP (tb := tab27) ((tabkOk (nuL (nu27 t id c more cut)) (one27 t id c more cut)).hyps (hyOk27 t id c more cut b0 b1 b2 b3 b4 b5 b6 b7 h0)) rfl hfi hb (run27 ) (args := [.int .u8 t, .int .u16 id, St' c, .bool false, St' more, .int .u16 cut]) (by simp only [RelL, Rel]; exact ⟨_, _, rfl, rfl, ⟨_, _, rfl, rfl, ⟨_, _, rfl, rfl, ⟨_, _, rfl, rfl, ⟨_, _, rfl, rfl, ⟨_, _, rfl, rfl, rfl⟩⟩⟩⟩⟩⟩) w hl
def hy28 : List (HK × AV) := [(.len (.x 2), .x 5),
  (.bin .gtr (.x 5) (.i .i64 (.ofNat 2000)), .b true)]
noncomputable def tab28 : Tab := { tabk with hyp := hy28 }
theorem run28 : okB (call tab28 9000 3 [.x 0, .x 1, .x 2, .b true, .x 3, .x 4] ⟨H0 , 1, 0, 0⟩) = true := by kernel_rfl
def nu28 (t : Int) (id : Int) (c : List UInt8) (more : List UInt8) (cut : Int) : List Value := [.int .u8 (t),
  .int .u16 (id),
  St' c,
  St' more,
  .int .u16 (cut),
  .int .i64 ((c.length : Int))]
theorem one28 (t : Int) (id : Int) (c : List UInt8) (more : List UInt8) (cut : Int) : ∀ j, (nuL (nu28 t id c more cut) j).oneCell' = true := nuL_one (l := nu28 t id c more cut) rfl
set_option maxHeartbeats 2000000 in
theorem hyOk28 (t : Int) (id : Int) (c : List UInt8) (more : List UInt8) (cut : Int) (b0 : 0 ≤ t) (b1 : t ≤ 255) (b2 : 0 ≤ id) (b3 : id ≤ 65535) (b4 : c.length ≤ 9223372036854775807) (b5 : more.length ≤ 9223372036854775807) (b6 : 0 ≤ cut) (b7 : cut ≤ 65535) (h0 : 2000 < (c.length : Int)) : ∀ k r, (k, r) ∈ hy28 → HOk (cx (nuL (nu28 t id c more cut)) (one28 t id c more cut) 0 laidE laidE_stab) k r := by
  unfold hy28
  refine hcons (kLenE (isX rfl) (denX rfl) (by first | omega | (simp only [List.length_append, List.length_cons, List.length_nil, List.length_take, List.length_drop, Int.natCast_add] at *; omega))) ?_
  refine hcons (kGt (isX rfl) (isZ (m := 2000) rfl) (decide_eq_true (by omega))) ?_
  exact hnil
theorem path28 (t : Int) (id : Int) (c : List UInt8) (more : List UInt8) (cut : Int) (b0 : 0 ≤ t) (b1 : t ≤ 255) (b2 : 0 ≤ id) (b3 : id ≤ 65535) (b4 : c.length ≤ 9223372036854775807) (b5 : more.length ≤ 9223372036854775807) (b6 : 0 ≤ cut) (b7 : cut ≤ 65535) (h0 : 2000 < (c.length : Int)) (w : World) (hl : laidE w) : Calls Try.prog 3 #[.int .u8 t, .int .u16 id, St' c, .bool true, St' more, .int .u16 cut] w fun e w' => e = .returned (.bool true) ∧ Go.AX.Below w.heap.size w w' := by
  obtain ⟨fi, hfi, hb⟩ : ∃ fi, tabk.fn.get 3 = some fi ∧ fi.body.isSome = true := ⟨_, rfl, by kernel_rfl⟩
  exact runP (tb := tab28) ((tabkOk (nuL (nu28 t id c more cut)) (one28 t id c more cut)).hyps (hyOk28 t id c more cut b0 b1 b2 b3 b4 b5 b6 b7 h0)) rfl hfi hb (run28 ) (args := [.int .u8 t, .int .u16 id, St' c, .bool true, St' more, .int .u16 cut]) (by simp only [RelL, Rel]; exact ⟨_, _, rfl, rfl, ⟨_, _, rfl, rfl, ⟨_, _, rfl, rfl, ⟨_, _, rfl, rfl, ⟨_, _, rfl, rfl, ⟨_, _, rfl, rfl, rfl⟩⟩⟩⟩⟩⟩) w hl
def hy29 : List (HK × AV) := [(.len (.x 2), .x 5),
  (.bin .gtr (.x 5) (.i .i64 (.ofNat 2000)), .b false),
  (.len (.x 3), .x 6),
  (.bin .gtr (.x 6) (.i .i64 (.ofNat 200)), .b false),
  (.bin .eql (.x 0) (.i .u8 (.ofNat 0)), .b true)]
noncomputable def tab29 : Tab := { tabk with hyp := hy29 }
theorem run29 : okB (call tab29 9000 3 [.x 0, .x 1, .x 2, .b false, .x 3, .x 4] ⟨H0 , 1, 0, 0⟩) = true := by kernel_rfl
def nu29 (t : Int) (id : Int) (c : List UInt8) (more : List UInt8) (cut : Int) : List Value := [.int .u8 (t),
  .int .u16 (id),
  St' c,
  St' more,
  .int .u16 (cut),
  .int .i64 ((c.length : Int)),
  .int .i64 ((more.length : Int))]
theorem one29 (t : Int) (id : Int) (c : List UInt8) (more : List UInt8) (cut : Int) : ∀ j, (nuL (nu29 t id c more cut) j).oneCell' = true := nuL_one (l := nu29 t id c more cut) rfl
set_option maxHeartbeats 2000000 in
theorem hyOk29 (t : Int) (id : Int) (c : List UInt8) (more : List UInt8) (cut : Int) (b0 : 0 ≤ t) (b1 : t ≤ 255) (b2 : 0 ≤ id) (b3 : id ≤ 65535) (b4 : c.length ≤ 9223372036854775807) (b5 : more.length ≤ 9223372036854775807) (b6 : 0 ≤ cut) (b7 : cut ≤ 65535) (h0 : ¬ (2000 < (c.length : Int))) (h1 : ¬ (200 < (more.length : Int))) (h2 : t = 0) : ∀ k r, (k, r) ∈ hy29 → HOk (cx (nuL (nu29 t id c more cut)) (one29 t id c more cut) 0 laidE laidE_stab) k r := by
  unfold hy29
  refine hcons (kLenE (isX rfl) (denX rfl) (by first | omega | (simp only [List.length_append, List.length_cons, List.length_nil, List.length_take, List.length_drop, Int.natCast_add] at *; omega))) ?_
  refine hcons (kGt (isX rfl) (isZ (m := 2000) rfl) (decide_eq_false (by omega))) ?_
  refine hcons (kLenE (isX rfl) (denX rfl) (by first | omega | (simp only [List.length_append, List.length_cons, List.length_nil, List.length_take, List.length_drop, Int.natCast_add] at *; omega))) ?_
  refine hcons (kGt (isX rfl) (isZ (m := 200) rfl) (decide_eq_false (by omega))) ?_
  refine hcons (kEqI (isX rfl) (isZ (m := 0) rfl) (decide_eq_true (by omega))) ?_
  exact hnil
theorem path29 (t : Int) (id : Int) (c : List UInt8) (more : List UInt8) (cut : Int) (b0 : 0 ≤ t) (b1 : t ≤ 255) (b2 : 0 ≤ id) (b3 : id ≤ 65535) (b4 : c.length ≤ 9223372036854775807) (b5 : more.length ≤ 9223372036854775807) (b6 : 0 ≤ cut) (b7 : cut ≤ 65535) (h0 : ¬ (2000 < (c.length : Int))) (h1 : ¬ (200 < (more.length : Int))) (h2 : t = 0) (w : World) (hl : laidE w) : Calls Try.prog 3 #[.int .u8 t, .int .u16 id, St' c, .bool false, St' more, .int .u16 cut] w fun e w' => e = .returned (.bool true) ∧ Go.AX.Below w.heap.size w w' := by
  obtain ⟨fi, hfi, hb⟩ : ∃ fi, tabk.fn.get 3 = some fi ∧ fi.body.isSome = true := ⟨_, rfl, by kernel_rfl⟩
  exact runP (tb := tab29) ((tabkOk (nuL (nu29 t id c more cut)) (one29 t id c more cut)).hyps (hyOk29 t id c more cut b0 b1 b2 b3 b4 b5 b6 b7 h0 h1 h2)) rfl hfi hb (run29 ) (args := [.int .u8 t, .int .u16 id, St' c, .bool false, St' more, .int .u16 cut]) (by simp only [RelL, Rel]; exact ⟨_, _, rfl, rfl, ⟨_, _, rfl, rfl, ⟨_, _, rfl, rfl, ⟨_, _, rfl, rfl, ⟨_, _, rfl, rfl, ⟨_, _, rfl, rfl, rfl⟩⟩⟩⟩⟩⟩) w hl
def hy30 : List (HK × AV) := [(.len (.x 2), .x 5),
  (.bin .gtr (.x 5) (.i .i64 (.ofNat 2000)), .b false),
  (.len (.x 3), .x 6),
  (.bin .gtr (.x 6) (.i .i64 (.ofNat 200)), .b false),
  (.bin .eql (.x 0) (.i .u8 (.ofNat 0)), .b true)]
noncomputable def tab30 : Tab := { tabk with hyp := hy30 }
theorem run30 : okB (call tab30 9000 3 [.x 0, .x 1, .x 2, .b true, .x 3, .x 4] ⟨H0 , 1, 0, 0⟩) = true := by kernel_rfl
def nu30 (t : Int) (id : Int) (c : List UInt8) (more : List UInt8) (cut : Int) : List Value := [.int .u8 (t),
  .int .u16 (id),
  St' c,
  St' more,
  .int .u16 (cut),
  .int .i64 ((c.length : Int)),
  .int .i64 ((more.length : Int))]
theorem one30 (t : Int) (id : Int) (c : List UInt8) (more : List UInt8) (cut : Int) : ∀ j, (nuL (nu30 t id c more cut) j).oneCell' = true := nuL_one (l := nu30 t id c more cut) rfl
set_option maxHeartbeats 2000000 in
theorem hyOk30 (t : Int) (id : Int) (c : List UInt8) (more : List UInt8) (cut : Int) (b0 : 0 ≤ t) (b1 : t ≤ 255) (b2 : 0 ≤ id) (b3 : id ≤ 65535) (b4 : c.length ≤ 9223372036854775807) (b5 : more.length ≤ 9223372036854775807) (b6 : 0 ≤ cut) (b7 : cut ≤ 65535) (h0 : ¬ (2000 < (c.length : Int))) (h1 : ¬ (200 < (more.length : Int))) (h2 : t = 0) : ∀ k r, (k, r) ∈ hy30 → HOk (cx (nuL (nu30 t id c more cut)) (one30 t id c more cut) 0 laidE laidE_stab) k r := by
  unfold hy30
  refine hcons (kLenE (isX rfl) (denX rfl) (by first | omega | (simp only [List.length_append, List.length_cons, List.length_nil, List.length_take, List.length_drop, Int.natCast_add] at *; omega))) ?_
  refine hcons (kGt (isX rfl) (isZ (m := 2000) rfl) (decide_eq_false (by omega))) ?_
  refine hcons (kLenE (isX rfl) (denX rfl) (by first | omega | (simp only [List.length_append, List.length_cons, List.length_nil, List.length_take, List.length_drop, Int.natCast_add] at *; omega))) ?_
  refine hcons (kGt (isX rfl) (isZ (m := 200) rfl) (decide_eq_false (by omega))) ?_
  refine hcons (kEqI (isX rfl) (isZ (m := 0) rfl) (decide_eq_true (by omega))) ?_
  exact hnil
theorem path30 (t : Int) (id : Int) (c : List UInt8) (more : List UInt8) (cut : Int) (b0 : 0 ≤ t) (b1 : t ≤ 255) (b2 : 0 ≤ id) (b3 : id ≤ 65535) (b4 : c.length ≤ 9223372036854775807) (b5 : more.length ≤ 9223372036854775807) (b6 : 0 ≤ cut) (b7 : cut ≤ 65535) (h0 : ¬ (2000 < (c.length : Int))) (h1 : ¬ (200 < (more.length : Int))) (h2 : t = 0) (w : World) (hl : laidE w) : Calls Try.prog 3 #[.int .u8 t, .int .u16 id, St' c, .bool true, St' more, .int .u16 cut] w fun e w' => e = .returned (.bool true) ∧ Go.AX.Below w.heap.size w w' := by
  obtain ⟨fi, hfi, hb⟩ : ∃ fi, tabk.fn.get 3 = some fi ∧ fi.body.isSome = true := ⟨_, rfl, by kernel_rfl⟩
  exact runP (tb := tab30) ((tabkOk (nuL (nu30 t id c more cut)) (one30 t id c more cut)).hyps (hyOk30 t id c more cut b0 b1 b2 b3 b4 b5 b6 b7 h0 h1 h2)) rfl hfi hb (run30 ) (args := [.int .u8 t, .int .u16 id, St' c, .bool true, St' more, .int .u16 cut]) (by simp only [RelL, Rel]; exact ⟨_, _, rfl, rfl, ⟨_, _, rfl, rfl, ⟨_, _, rfl, rfl, ⟨_, _, rfl, rfl, ⟨_, _, rfl, rfl, ⟨_, _, rfl, rfl, rfl⟩⟩⟩⟩⟩⟩) w hl
def hy31 : List (HK × AV) := [(.len (.x 2), .x 5),
  (.bin .gtr (.x 5) (.i .i64 (.ofNat 2000)), .b false),
  (.len (.x 3), .x 6),
  (.bin .gtr (.x 6) (.i .i64 (.ofNat 200)), .b true)]
noncomputable def tab31 : Tab := { tabk with hyp := hy31 }
theorem run31 : okB (call tab31 9000 3 [.x 0, .x 1, .x 2, .b true, .x 3, .x 4] ⟨H0 , 1, 0, 0⟩) = true := by kernel_rfl
def nu31 (t : Int) (id : Int) (c : List UInt8) (more : List UInt8) (cut : Int) : List Value := [.int .u8 (t),
  .int .u16 (id),
  St' c,
  St' more,
  .int .u16 (cut),
  .int .i64 ((c.length : Int)),
  .int .i64 ((more.length : Int))]
theorem one31 (t : Int) (id : Int) (c : List UInt8) (more : List UInt8) (cut : Int) : ∀ j, (nuL (nu31 t id c more cut) j).oneCell' = true := nuL_one (l := nu31 t id c more cut) rfl
set_option maxHeartbeats 2000000 in
theorem hyOk31 (t : Int) (id : Int) (c : List UInt8) (more : List UInt8) (cut : Int) (b0 : 0 ≤ t) (b1 : t ≤ 255) (b2 : 0 ≤ id) (b3 : id ≤ 65535) (b4 : c.length ≤ 9223372036854775807) (b5 : more.length ≤ 9223372036854775807) (b6 : 0 ≤ cut) (b7 : cut ≤ 65535) (h0 : ¬ (2000 < (c.length : Int))) (h1 : 200 < (more.length : Int)) : ∀ k r, (k, r) ∈ hy31 → HOk (cx (nuL (nu31 t id c more cut)) (one31 t id c more cut) 0 laidE laidE_stab) k r := by
  unfold hy31
  refine hcons (kLenE (isX rfl) (denX rfl) (by first | omega | (simp only [List.length_append, List.length_cons, List.length_nil, List.length_take, List.length_drop, Int.natCast_add] at *; omega))) ?_
  refine hcons (kGt (isX rfl) (isZ (m := 2000) rfl) (decide_eq_false (by omega))) ?_
  refine hcons (kLenE (isX rfl) (denX rfl) (by first | omega | (simp only [List.length_append, List.length_cons, List.length_nil, List.length_take, List.length_drop, Int.natCast_add] at *; omega))) ?_
  refine hcons (kGt (isX rfl) (isZ (m := 200) rfl) (decide_eq_true (by omega))) ?_
  exact hnil
theorem path31 (t : Int) (id : Int) (c : List UInt8) (more : List UInt8) (cut : Int) (b0 : 0 ≤ t) (b1 : t ≤ 255) (b2 : 0 ≤ id) (b3 : id ≤ 65535) (b4 : c.length ≤ 9223372036854775807) (b5 : more.length ≤ 9223372036854775807) (b6 : 0 ≤ cut) (b7 : cut ≤ 65535) (h0 : ¬ (2000 < (c.length : Int))) (h1 : 200 < (more.length : Int)) (w : World) (hl : laidE w) : Calls Try.prog 3 #[.int .u8 t, .int .u16 id, St' c, .bool true, St' more, .int .u16 cut] w fun e w' => e = .returned (.bool true) ∧ Go.AX.Below w.heap.size w w' := by
  obtain ⟨fi, hfi, hb⟩ : ∃ fi, tabk.fn.get 3 = some fi ∧ fi.body.isSome = true := ⟨_, rfl, by kernel_rfl⟩
  exact runP (tb := tab31) ((tabkOk (nuL (nu31 t id c more cut)) (one31 t id c more cut)).hyps (hyOk31 t id c more cut b0 b1 b2 b3 b4 b5 b6 b7 h0 h1)) rfl hfi hb (run31 ) (args := [.int .u8 t, .int .u16 id, St' c, .bool true, St' more, .int .u16 cut]) (by simp only [RelL, Rel]; exact ⟨_, _, rfl, rfl, ⟨_, _, rfl, rfl, ⟨_, _, rfl, rfl, ⟨_, _, rfl, rfl, ⟨_, _, rfl, rfl, ⟨_, _, rfl, rfl, rfl⟩⟩⟩⟩⟩⟩) w hl
def hy32 : List (HK × AV) := [(.len (.x 2), .x 5),
  (.bin .gtr (.x 5) (.i .i64 (.ofNat 2000)), .b false),
  (.len (.x 3), .x 6),
  (.bin .gtr (.x 6) (.i .i64 (.ofNat 200)), .b true)]
noncomputable def tab32 : Tab := { tabk with hyp := hy32 }
theorem run32 : okB (call tab32 9000 3 [.x 0, .x 1, .x 2, .b false, .x 3, .x 4] ⟨H0 , 1, 0, 0⟩) = true := by kernel_rfl
def nu32 (t : Int) (id : Int) (c : List UInt8) (more : List UInt8) (cut : Int) : List Value := [.int .u8 (t),
  .int .u16 (id),
  St' c,
  St' more,
  .int .u16 (cut),
  .int .i64 ((c.length : Int)),
  .int .i64 ((more.length : Int))]
theorem one32 (t : Int) (id : Int) (c : List UInt8) (more : List UInt8) (cut : Int) : ∀ j, (nuL (nu32 t id c more cut) j).oneCell' = true := nuL_one (l := nu32 t id c more cut) rfl
set_option maxHeartbeats 2000000 in
theorem hyOk32 (t : Int) (id : Int) (c : List UInt8) (more : List UInt8) (cut : Int) (b0 : 0 ≤ t) (b1 : t ≤ 255) (b2 : 0 ≤ id) (b3 : id ≤ 65535) (b4 : c.length ≤ 9223372036854775807) (b5 : more.length ≤ 9223372036854775807) (b6 : 0 ≤ cut) (b7 : cut ≤ 65535) (h0 : ¬ (2000 < (c.length : Int))) (h1 : 200 < (more.length : Int)) : ∀ k r, (k, r) ∈ hy32 → HOk (cx (nuL (nu32 t id c more cut)) (one32 t id c more cut) 0 laidE laidE_stab) k r := by
  unfold hy32
  refine hcons (kLenE (isX rfl) (denX rfl) (by first | omega | (simp only [List.length_append, List.length_cons, List.length_nil, List.length_take, List.length_drop, Int.natCast_add] at *; omega))) ?_
  refine hcons (kGt (isX rfl) (isZ (m := 2000) rfl) (decide_eq_false (by omega))) ?_
  refine hcons (kLenE (isX rfl) (denX rfl) (by first | omega | (simp only [List.length_append, List.length_cons, List.length_nil, List.length_take, List.length_drop, Int.natCast_add] at *; omega))) ?_
  refine hcons (kGt (isX rfl) (isZ (m := 200) rfl) (decide_eq_true (by omega))) ?_
  exact hnil
theorem path32 (t : Int) (id : Int) (c : List UInt8) (more : List UInt8) (cut : Int) (b0 : 0 ≤ t) (b1 : t ≤ 255) (b2 : 0 ≤ id) (b3 : id ≤ 65535) (b4 : c.length ≤ 9223372036854775807) (b5 : more.length ≤ 9223372036854775807) (b6 : 0 ≤ cut) (b7 : cut ≤ 65535) (h0 : ¬ (2000 < (c.length : Int))) (h1 : 200 < (more.length : Int)) (w : World) (hl : laidE w) : Calls Try.prog 3 #[.int .u8 t, .int .u16 id, St' c, .bool false, St' more, .int .u16 cut] w fun e w' => e = .returned (.bool true) ∧ Go.AX.Below w.heap.size w w' := by
  obtain ⟨fi, hfi, hb⟩ : ∃ fi, tabk.fn.get 3 = some fi ∧ fi.body.isSome = true := ⟨_, rfl, by kernel_rfl⟩
  exact runP (tb := tab32) ((tabkOk (nuL (nu32 t id c more cut)) (one32 t id c more cut)).hyps (hyOk32 t id c more cut b0 b1 b2 b3 b4 b5 b6 b7 h0 h1)) rfl hfi hb (run32 ) (args := [.int .u8 t, .int .u16 id, St' c, .bool false, St' more, .int .u16 cut]) (by simp only [RelL, Rel]; exact ⟨_, _, rfl, rfl, ⟨_, _, rfl, rfl, ⟨_, _, rfl, rfl, ⟨_, _, rfl, rfl, ⟨_, _, rfl, rfl, ⟨_, _, rfl, rfl, rfl⟩⟩⟩⟩⟩⟩) w hl
end Go.Proofs.Ytejdkoheodambaa.recordBack
