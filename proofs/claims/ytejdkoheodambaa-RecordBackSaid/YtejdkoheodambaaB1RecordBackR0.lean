/- A part of the proof: an interpreter of the model's own code on partly known states, and that what it answers is what the program answers. No condition of its own. -/
import Derived.Test.YtejdkoheodambaaB1RecordBackO
set_option maxRecDepth 100000
set_option linter.unusedVariables false
set_option linter.unusedSimpArgs false
namespace Go.Proofs.Ytejdkoheodambaa.recordBack
open Go Go.AX Go.Proofs Go.Proofs.Ytejdkoheodambaa
def hy0 : List (HK × AV) := [(.len (.x 2), .x 5),
  (.bin .gtr (.x 5) (.i .i64 (.ofNat 2000)), .b false),
  (.len (.x 3), .x 6),
  (.bin .gtr (.x 6) (.i .i64 (.ofNat 200)), .b false),
  (.bin .eql (.x 0) (.i .u8 (.ofNat 0)), .b false),
  (.conv 3 (.x 0), .x 7),
  (.conv 3 (.x 1), .x 8),
  (.bin .geq (.x 7) (.i .i64 (.ofNat 1)), .b true),
  (.bin .leq (.x 7) (.i .i64 (.ofNat 255)), .b true),
  (.bin .geq (.x 8) (.i .i64 (.ofNat 0)), .b true),
  (.bin .leq (.x 8) (.i .i64 (.ofNat 65535)), .b true),
  (.bin .leq (.x 5) (.i .i64 (.ofNat 65535)), .b true),
  (.conv 5 (.x 7), .x 9),
  (.bin .shr (.x 8) (.i .u64 (.ofNat 8)), .x 10),
  (.conv 5 (.x 10), .x 11),
  (.conv 5 (.x 8), .x 12),
  (.bin .shr (.x 5) (.i .u64 (.ofNat 8)), .x 13),
  (.conv 5 (.x 13), .x 14),
  (.conv 5 (.x 5), .x 15),
  (.bytes [.i .u8 (.ofNat 1), .x 9, .x 11, .x 12, .x 14, .x 15, .i .u8 (.ofNat 0), .i .u8 (.ofNat 0)], .x 16),
  (.bin .add (.x 16) (.x 2), .x 17),
  (.bin .add (.x 17) (.s 0 0), .x 18),
  (.len (.x 18), .x 19),
  (.bin .lss (.x 19) (.i .i64 (.ofNat 8)), .b false),
  (.bin .add (.x 18) (.x 3), .x 20),
  (.bin .neq (.x 20) (.s 0 0), .b true),
  (.idx (.x 20) (.i .i64 (.ofNat 0)), .i .u8 (.ofNat 1)),
  (.len (.x 20), .x 21),
  (.bin .lss (.x 21) (.i .i64 (.ofNat 8)), .b false),
  (.idx (.x 20) (.i .i64 (.ofNat 4)), .x 22),
  (.conv 3 (.x 22), .x 23),
  (.bin .shl (.x 23) (.i .u64 (.ofNat 8)), .x 24),
  (.bin .add (.i .i64 (.ofNat 8)) (.x 24), .x 25),
  (.idx (.x 20) (.i .i64 (.ofNat 5)), .x 26),
  (.conv 3 (.x 26), .x 27),
  (.bin .add (.x 25) (.x 27), .x 28),
  (.idx (.x 20) (.i .i64 (.ofNat 6)), .i .u8 (.ofNat 0)),
  (.bin .add (.x 28) (.i .i64 (.ofNat 0)), .x 29),
  (.bin .lss (.x 21) (.x 29), .b false),
  (.idx (.x 20) (.i .i64 (.ofNat 1)), .x 30),
  (.bin .eql (.x 30) (.i .u8 (.ofNat 0)), .b false),
  (.conv 3 (.x 30), .x 31),
  (.idx (.x 20) (.i .i64 (.ofNat 2)), .x 32),
  (.conv 3 (.x 32), .x 33),
  (.bin .shl (.x 33) (.i .u64 (.ofNat 8)), .x 34),
  (.idx (.x 20) (.i .i64 (.ofNat 3)), .x 35),
  (.conv 3 (.x 35), .x 36),
  (.bin .or (.x 34) (.x 36), .x 37),
  (.bin .sub (.x 29) (.i .i64 (.ofNat 0)), .x 38),
  (.sub (.x 20) (some (.i .i64 (.ofNat 8))) (some (.x 38)), .x 39),
  (.sub (.x 20) (some (.x 29)) none, .x 40),
  (.conv 3 (.x 4), .x 41),
  (.bin .rem (.x 41) (.x 19), .x 42),
  (.sub (.x 18) none (some (.x 42)), .x 43),
  (.bin .neq (.x 43) (.s 0 0), .b false),
  (.len (.x 43), .x 44),
  (.bin .lss (.x 44) (.i .i64 (.ofNat 8)), .b true),
  (.eq 3 (.x 31) (.x 7), .b true),
  (.eq 3 (.x 37) (.x 8), .b true),
  (.eq 9 (.x 39) (.x 2), .b true),
  (.bin .eql (.x 40) (.x 3), .b true)]
noncomputable def tab0 : Tab := { tabk with hyp := hy0 }
theorem run0 : okB (call tab0 9000 3 [.x 0, .x 1, .x 2, .b false, .x 3, .x 4] ⟨H0 , 1, 0, 0⟩) = true := by kernel_rfl
def nu0 (t : Int) (id : Int) (c : List UInt8) (more : List UInt8) (cut : Int) : List Value := [.int .u8 (t),
  .int .u16 (id),
  St' c,
  St' more,
  .int .u16 (cut),
  .int .i64 ((c.length : Int)),
  .int .i64 ((more.length : Int)),
  .int .i64 (t),
  .int .i64 (id),
  .int .u8 (t),
  .int .i64 (id / 256),
  .int .u8 (id / 256),
  .int .u8 (id % 256),
  .int .i64 (((c.length : Int)) / 256),
  .int .u8 ((((c.length : Int)) / 256) % 256),
  .int .u8 (((c.length : Int)) % 256),
  St' ([u8 1, u8 (t), u8 (id / 256), u8 (id % 256), u8 ((((c.length : Int)) / 256) % 256), u8 (((c.length : Int)) % 256), u8 0, u8 0]),
  St' (([u8 1, u8 (t), u8 (id / 256), u8 (id % 256), u8 ((((c.length : Int)) / 256) % 256), u8 (((c.length : Int)) % 256), u8 0, u8 0] ++ c)),
  St' (([u8 1, u8 (t), u8 (id / 256), u8 (id % 256), u8 ((((c.length : Int)) / 256) % 256), u8 (((c.length : Int)) % 256), u8 0, u8 0] ++ c)),
  .int .i64 ((c.length : Int) + 8),
  St' (([u8 1, u8 (t), u8 (id / 256), u8 (id % 256), u8 ((((c.length : Int)) / 256) % 256), u8 (((c.length : Int)) % 256), u8 0, u8 0] ++ (c ++ more))),
  .int .i64 ((c.length : Int) + (more.length : Int) + 8),
  .int .u8 ((((c.length : Int)) / 256) % 256),
  .int .i64 ((((c.length : Int)) / 256) % 256),
  .int .i64 (((((c.length : Int)) / 256) % 256) * 256),
  .int .i64 (8 + (((((c.length : Int)) / 256) % 256) * 256)),
  .int .u8 (((c.length : Int)) % 256),
  .int .i64 (((c.length : Int)) % 256),
  .int .i64 ((8 + (((((c.length : Int)) / 256) % 256) * 256)) + (((c.length : Int)) % 256)),
  .int .i64 (((8 + (((((c.length : Int)) / 256) % 256) * 256)) + (((c.length : Int)) % 256)) + 0),
  .int .u8 (t),
  .int .i64 (t),
  .int .u8 (id / 256),
  .int .i64 (id / 256),
  .int .i64 ((id / 256) * 256),
  .int .u8 (id % 256),
  .int .i64 (id % 256),
  .int .i64 (((id / 256) * 256) + (id % 256)),
  .int .i64 ((((8 + (((((c.length : Int)) / 256) % 256) * 256)) + (((c.length : Int)) % 256)) + 0) - 0),
  St' c,
  St' more,
  .int .i64 (cut),
  .int .i64 (cut % ((c.length : Int) + 8)),
  St' ((List.take (cut % ((c.length : Int) + 8)).toNat (([u8 1, u8 (t), u8 (id / 256), u8 (id % 256), u8 ((((c.length : Int)) / 256) % 256), u8 (((c.length : Int)) % 256), u8 0, u8 0] ++ c)))),
  .int .i64 ((cut % ((c.length : Int) + 8)))]
theorem one0 (t : Int) (id : Int) (c : List UInt8) (more : List UInt8) (cut : Int) : ∀ j, (nuL (nu0 t id c more cut) j).oneCell' = true := nuL_one (l := nu0 t id c more cut) rfl
set_option maxHeartbeats 2000000 in
theorem hyOk0 (t : Int) (id : Int) (c : List UInt8) (more : List UInt8) (cut : Int) (b0 : 0 ≤ t) (b1 : t ≤ 255) (b2 : 0 ≤ id) (b3 : id ≤ 65535) (b4 : c.length ≤ 9223372036854775807) (b5 : more.length ≤ 9223372036854775807) (b6 : 0 ≤ cut) (b7 : cut ≤ 65535) (h0 : ¬ (2000 < (c.length : Int))) (h1 : ¬ (200 < (more.length : Int))) (h2 : ¬ (t = 0)) (h13 : (cut % ((c.length : Int) + 8)) = 0) : ∀ k r, (k, r) ∈ hy0 → HOk (cx (nuL (nu0 t id c more cut)) (one0 t id c more cut) 0 laidE laidE_stab) k r := by
  have := Int.emod_nonneg cut (show ((c.length : Int) + 8) ≠ 0 by omega); have := Int.emod_lt_of_pos cut (show 0 < ((c.length : Int) + 8) by omega)
  unfold hy0
  refine hcons (kLenE (isX rfl) (denX rfl) (by first | omega | (simp only [List.length_append, List.length_cons, List.length_nil, List.length_take, List.length_drop, Int.natCast_add] at *; omega))) ?_
  refine hcons (kGt (isX rfl) (isZ (m := 2000) rfl) (decide_eq_false (by omega))) ?_
  refine hcons (kLenE (isX rfl) (denX rfl) (by first | omega | (simp only [List.length_append, List.length_cons, List.length_nil, List.length_take, List.length_drop, Int.natCast_add] at *; omega))) ?_
  refine hcons (kGt (isX rfl) (isZ (m := 200) rfl) (decide_eq_false (by omega))) ?_
  refine hcons (kEqI (isX rfl) (isZ (m := 0) rfl) (decide_eq_false (by omega))) ?_
  refine hcons (kConvF (isX rfl) tu3 (denX rfl) (fI64 (by omega) (by omega))) ?_
  refine hcons (kConvF (isX rfl) tu3 (denX rfl) (fI64 (by omega) (by omega))) ?_
  refine hcons (kGe (isX rfl) (isZ (m := 1) rfl) (decide_eq_true (by omega))) ?_
  refine hcons (kLe (isX rfl) (isZ (m := 255) rfl) (decide_eq_true (by omega))) ?_
  refine hcons (kGe (isX rfl) (isZ (m := 0) rfl) (decide_eq_true (by omega))) ?_
  refine hcons (kLe (isX rfl) (isZ (m := 65535) rfl) (decide_eq_true (by omega))) ?_
  refine hcons (kLe (isX rfl) (isZ (m := 65535) rfl) (decide_eq_true (by omega))) ?_
  refine hcons (kConvF (isX rfl) tu5 (denX rfl) (fU8 (by omega) (by omega))) ?_
  refine hcons (kShrM 8 256 rfl (isX rfl) (isZ (m := 8) rfl) (denX rfl) rfl (by decide) (by omega) rfl) ?_
  refine hcons (kConvF (isX rfl) tu5 (denX rfl) (fU8 (by omega) (by omega))) ?_
  refine hcons (kConv8 (isX rfl) tu5 (denX rfl) rfl) ?_
  refine hcons (kShrM 8 256 rfl (isX rfl) (isZ (m := 8) rfl) (denX rfl) rfl (by decide) (by omega) rfl) ?_
  refine hcons (kConv8 (isX rfl) tu5 (denX rfl) rfl) ?_
  refine hcons (kConv8 (isX rfl) tu5 (denX rfl) rfl) ?_
  refine hcons (kBytesB (bs := [u8 1, u8 (t), u8 (id / 256), u8 (id % 256), u8 ((((c.length : Int)) / 256) % 256), u8 (((c.length : Int)) % 256), u8 0, u8 0]) (.cons (isB8 (isZ (m := 1) rfl) (by omega) (by omega)) (.cons (isB8 (isX rfl) (by omega) (by omega)) (.cons (isB8 (isX rfl) (by omega) (by omega)) (.cons (isB8 (isX rfl) (by omega) (by omega)) (.cons (isB8 (isX rfl) (by omega) (by omega)) (.cons (isB8 (isX rfl) (by omega) (by omega)) (.cons (isB8 (isZ (m := 0) rfl) (by omega) (by omega)) (.cons (isB8 (isZ (m := 0) rfl) (by omega) (by omega)) .nil)))))))) (denX rfl)) ?_
  refine hcons (kCat (isX rfl) (isX rfl) (denX rfl) (by first | rfl | (simp only [List.append_assoc, List.cons_append, List.nil_append, List.append_nil]; done)) (by first | omega | (simp only [List.length_append, List.length_cons, List.length_nil, List.length_take, List.length_drop, Int.natCast_add] at *; omega))) ?_
  refine hcons (kCat (isX rfl) (isSx (l := ([] : List UInt8)) 0 0 rfl) (denX rfl) (by first | rfl | (simp only [List.append_assoc, List.cons_append, List.nil_append, List.append_nil]; done)) (by first | omega | (simp only [List.length_append, List.length_cons, List.length_nil, List.length_take, List.length_drop, Int.natCast_add] at *; omega))) ?_
  refine hcons (kLenE (isX rfl) (denX rfl) (by first | omega | (simp only [List.length_append, List.length_cons, List.length_nil, List.length_take, List.length_drop, Int.natCast_add] at *; omega))) ?_
  refine hcons (kLt (isX rfl) (isZ (m := 8) rfl) (decide_eq_false (by omega))) ?_
  refine hcons (kCat (isX rfl) (isX rfl) (denX rfl) (by first | rfl | (simp only [List.append_assoc, List.cons_append, List.nil_append, List.append_nil]; done)) (by first | omega | (simp only [List.length_append, List.length_cons, List.length_nil, List.length_take, List.length_drop, Int.natCast_add] at *; omega))) ?_
  refine hcons (kNeS (isX rfl) (isSx (l := ([] : List UInt8)) 0 0 rfl) (bnT (by first | exact nilT (by first | omega | (simp only [List.length_append, List.length_cons, List.length_nil, List.length_take, List.length_drop, Int.natCast_add] at *; omega)) | exact nilF (by first | omega | (simp only [List.length_append, List.length_cons, List.length_nil, List.length_take, List.length_drop, Int.natCast_add] at *; omega)) | exact nilT' (by first | omega | (simp only [List.length_append, List.length_cons, List.length_nil, List.length_take, List.length_drop, Int.natCast_add] at *; omega)) | exact nilF' (by first | omega | (simp only [List.length_append, List.length_cons, List.length_nil, List.length_take, List.length_drop, Int.natCast_add] at *; omega))))) ?_
  refine hcons (kIdxE (i := 0) (isX rfl) (isZ (m := 0) rfl) (denZ (m := 1) rfl) rfl (by first | omega | (simp only [List.length_append, List.length_cons, List.length_nil, List.length_take, List.length_drop, Int.natCast_add] at *; omega)) (bt_at rfl (by omega) (by omega))) ?_
  refine hcons (kLenE (isX rfl) (denX rfl) (by first | omega | (simp only [List.length_append, List.length_cons, List.length_nil, List.length_take, List.length_drop, Int.natCast_add] at *; omega))) ?_
  refine hcons (kLt (isX rfl) (isZ (m := 8) rfl) (decide_eq_false (by omega))) ?_
  refine hcons (kIdxE (i := 4) (isX rfl) (isZ (m := 4) rfl) (denX rfl) rfl (by first | omega | (simp only [List.length_append, List.length_cons, List.length_nil, List.length_take, List.length_drop, Int.natCast_add] at *; omega)) (bt_at rfl (by omega) (by omega))) ?_
  refine hcons (kConvF (isX rfl) tu3 (denX rfl) (fI64 (by omega) (by omega))) ?_
  refine hcons (kShlM 8 256 rfl (isX rfl) (isZ (m := 8) rfl) (denX rfl) rfl (by decide) rfl (fI64 (by omega) (by omega))) ?_
  refine hcons (kAdd (isZ (m := 8) rfl) (isX rfl) (denX rfl) rfl (fI64 (by omega) (by omega))) ?_
  refine hcons (kIdxE (i := 5) (isX rfl) (isZ (m := 5) rfl) (denX rfl) rfl (by first | omega | (simp only [List.length_append, List.length_cons, List.length_nil, List.length_take, List.length_drop, Int.natCast_add] at *; omega)) (bt_at rfl (by omega) (by omega))) ?_
  refine hcons (kConvF (isX rfl) tu3 (denX rfl) (fI64 (by omega) (by omega))) ?_
  refine hcons (kAdd (isX rfl) (isX rfl) (denX rfl) rfl (fI64 (by omega) (by omega))) ?_
  refine hcons (kIdxE (i := 6) (isX rfl) (isZ (m := 6) rfl) (denZ (m := 0) rfl) rfl (by first | omega | (simp only [List.length_append, List.length_cons, List.length_nil, List.length_take, List.length_drop, Int.natCast_add] at *; omega)) (bt_at rfl (by omega) (by omega))) ?_
  refine hcons (kAdd (isX rfl) (isZ (m := 0) rfl) (denX rfl) rfl (fI64 (by omega) (by omega))) ?_
  refine hcons (kLt (isX rfl) (isX rfl) (decide_eq_false (by omega))) ?_
  refine hcons (kIdxE (i := 1) (isX rfl) (isZ (m := 1) rfl) (denX rfl) rfl (by first | omega | (simp only [List.length_append, List.length_cons, List.length_nil, List.length_take, List.length_drop, Int.natCast_add] at *; omega)) (bt_at rfl (by omega) (by omega))) ?_
  refine hcons (kEqI (isX rfl) (isZ (m := 0) rfl) (decide_eq_false (by omega))) ?_
  refine hcons (kConvF (isX rfl) tu3 (denX rfl) (fI64 (by omega) (by omega))) ?_
  refine hcons (kIdxE (i := 2) (isX rfl) (isZ (m := 2) rfl) (denX rfl) rfl (by first | omega | (simp only [List.length_append, List.length_cons, List.length_nil, List.length_take, List.length_drop, Int.natCast_add] at *; omega)) (bt_at rfl (by omega) (by omega))) ?_
  refine hcons (kConvF (isX rfl) tu3 (denX rfl) (fI64 (by omega) (by omega))) ?_
  refine hcons (kShlM 8 256 rfl (isX rfl) (isZ (m := 8) rfl) (denX rfl) rfl (by decide) rfl (fI64 (by omega) (by omega))) ?_
  refine hcons (kIdxE (i := 3) (isX rfl) (isZ (m := 3) rfl) (denX rfl) rfl (by first | omega | (simp only [List.length_append, List.length_cons, List.length_nil, List.length_take, List.length_drop, Int.natCast_add] at *; omega)) (bt_at rfl (by omega) (by omega))) ?_
  refine hcons (kConvF (isX rfl) tu3 (denX rfl) (fI64 (by omega) (by omega))) ?_
  refine hcons (kOrM 8 256 rfl (isX rfl) (isX rfl) (denX rfl) (by omega) (by omega) (fI64 (by omega) (by omega)) (fI64 (by omega) (by omega)) (by omega) (by omega) rfl (fI64 (by omega) (by omega))) ?_
  refine hcons (kSub (isX rfl) (isZ (m := 0) rfl) (denX rfl) rfl (fI64 (by omega) (by omega))) ?_
  refine hcons (kCut (isX rfl) (.inr ⟨_, _, rfl, (isZ (m := 8) rfl)⟩) (.inr ⟨_, _, rfl, (isX rfl)⟩) (p := [u8 1, u8 (t), u8 (id / 256), u8 (id % 256), u8 ((((c.length : Int)) / 256) % 256), u8 (((c.length : Int)) % 256), u8 0, u8 0]) (m := c) (q := more) (by first | rfl | (simp only [List.append_assoc, List.cons_append, List.nil_append, List.append_nil]; done)) (by first | omega | (simp only [List.length_append, List.length_cons, List.length_nil, List.length_take, List.length_drop, Int.natCast_add] at *; omega)) (by first | omega | (simp only [List.length_append, List.length_cons, List.length_nil, List.length_take, List.length_drop, Int.natCast_add] at *; omega)) (denX rfl)) ?_
  refine hcons (kCut (isX rfl) (.inr ⟨_, _, rfl, (isX rfl)⟩) (.inl ⟨rfl, rfl⟩) (p := ([u8 1, u8 (t), u8 (id / 256), u8 (id % 256), u8 ((((c.length : Int)) / 256) % 256), u8 (((c.length : Int)) % 256), u8 0, u8 0] ++ c)) (m := more) (q := ([] : List UInt8)) (by first | rfl | (simp only [List.append_assoc, List.cons_append, List.nil_append, List.append_nil]; done)) (by first | omega | (simp only [List.length_append, List.length_cons, List.length_nil, List.length_take, List.length_drop, Int.natCast_add] at *; omega)) (by first | omega | (simp only [List.length_append, List.length_cons, List.length_nil, List.length_take, List.length_drop, Int.natCast_add] at *; omega)) (denX rfl)) ?_
  refine hcons (kConvF (isX rfl) tu3 (denX rfl) (fI64 (by omega) (by omega))) ?_
  refine hcons (kRem (isX rfl) (isX rfl) (denX rfl) (by omega) (by omega) rfl) ?_
  refine hcons (kTake (isX rfl) (isX rfl) (by first | omega | (simp only [List.length_append, List.length_cons, List.length_nil, List.length_take, List.length_drop, Int.natCast_add] at *; omega)) (by first | omega | (simp only [List.length_append, List.length_cons, List.length_nil, List.length_take, List.length_drop, Int.natCast_add] at *; omega)) (denX rfl)) ?_
  refine hcons (kNeS (isX rfl) (isSx (l := ([] : List UInt8)) 0 0 rfl) (bnF (by first | exact nilT (by first | omega | (simp only [List.length_append, List.length_cons, List.length_nil, List.length_take, List.length_drop, Int.natCast_add] at *; omega)) | exact nilF (by first | omega | (simp only [List.length_append, List.length_cons, List.length_nil, List.length_take, List.length_drop, Int.natCast_add] at *; omega)) | exact nilT' (by first | omega | (simp only [List.length_append, List.length_cons, List.length_nil, List.length_take, List.length_drop, Int.natCast_add] at *; omega)) | exact nilF' (by first | omega | (simp only [List.length_append, List.length_cons, List.length_nil, List.length_take, List.length_drop, Int.natCast_add] at *; omega))))) ?_
  refine hcons (kLenE (isX rfl) (denX rfl) (by first | omega | (simp only [List.length_append, List.length_cons, List.length_nil, List.length_take, List.length_drop, Int.natCast_add] at *; omega))) ?_
  refine hcons (kLt (isX rfl) (isZ (m := 8) rfl) (decide_eq_true (by omega))) ?_
  refine hcons (kEqT (isX rfl) (isX rfl) tu3 (decide_eq_true (by omega))) ?_
  refine hcons (kEqT (isX rfl) (isX rfl) tu3 (decide_eq_true (by omega))) ?_
  refine hcons (kEqTS (isX rfl) (isX rfl) tu9 (decide_eq_true rfl)) ?_
  refine hcons (kEqS (isX rfl) (isX rfl) (decide_eq_true rfl)) ?_
  exact hnil
theorem path0 (t : Int) (id : Int) (c : List UInt8) (more : List UInt8) (cut : Int) (b0 : 0 ≤ t) (b1 : t ≤ 255) (b2 : 0 ≤ id) (b3 : id ≤ 65535) (b4 : c.length ≤ 9223372036854775807) (b5 : more.length ≤ 9223372036854775807) (b6 : 0 ≤ cut) (b7 : cut ≤ 65535) (h0 : ¬ (2000 < (c.length : Int))) (h1 : ¬ (200 < (more.length : Int))) (h2 : ¬ (t = 0)) (h13 : (cut % ((c.length : Int) + 8)) = 0) (w : World) (hl : laidE w) : Calls Try.prog 3 #[.int .u8 t, .int .u16 id, St' c, .bool false, St' more, .int .u16 cut] w fun e w' => e = .returned (.bool true) ∧ Go.AX.Below w.heap.size w w' := by
  obtain ⟨fi, hfi, hb⟩ : ∃ fi, tabk.fn.get 3 = some fi ∧ fi.body.isSome = true := ⟨_, rfl, by kernel_rfl⟩
  exact runP (tb := tab0) ((tabkOk (nuL (nu0 t id c more cut)) (one0 t id c more cut)).hyps (hyOk0 t id c more cut b0 b1 b2 b3 b4 b5 b6 b7 h0 h1 h2 h13)) rfl hfi hb (run0 ) (args := [.int .u8 t, .int .u16 id, St' c, .bool false, St' more, .int .u16 cut]) (by simp only [RelL, Rel]; exact ⟨_, _, rfl, rfl, ⟨_, _, rfl, rfl, ⟨_, _, rfl, rfl, ⟨_, _, rfl, rfl, ⟨_, _, rfl, rfl, ⟨_, _, rfl, rfl, rfl⟩⟩⟩⟩⟩⟩) w hl
def hy1 : List (HK × AV) := [(.len (.x 2), .x 5),
  (.bin .gtr (.x 5) (.i .i64 (.ofNat 2000)), .b false),
  (.len (.x 3), .x 6),
  (.bin .gtr (.x 6) (.i .i64 (.ofNat 200)), .b false),
  (.bin .eql (.x 0) (.i .u8 (.ofNat 0)), .b false),
  (.conv 3 (.x 0), .x 7),
  (.conv 3 (.x 1), .x 8),
  (.bin .geq (.x 7) (.i .i64 (.ofNat 1)), .b true),
  (.bin .leq (.x 7) (.i .i64 (.ofNat 255)), .b true),
  (.bin .geq (.x 8) (.i .i64 (.ofNat 0)), .b true),
  (.bin .leq (.x 8) (.i .i64 (.ofNat 65535)), .b true),
  (.bin .leq (.x 5) (.i .i64 (.ofNat 65535)), .b true),
  (.conv 5 (.x 7), .x 9),
  (.bin .shr (.x 8) (.i .u64 (.ofNat 8)), .x 10),
  (.conv 5 (.x 10), .x 11),
  (.conv 5 (.x 8), .x 12),
  (.bin .shr (.x 5) (.i .u64 (.ofNat 8)), .x 13),
  (.conv 5 (.x 13), .x 14),
  (.conv 5 (.x 5), .x 15),
  (.bytes [.i .u8 (.ofNat 1), .x 9, .x 11, .x 12, .x 14, .x 15, .i .u8 (.ofNat 0), .i .u8 (.ofNat 0)], .x 16),
  (.bin .add (.x 16) (.x 2), .x 17),
  (.bin .add (.x 17) (.s 0 0), .x 18),
  (.len (.x 18), .x 19),
  (.bin .lss (.x 19) (.i .i64 (.ofNat 8)), .b false),
  (.bin .add (.x 18) (.x 3), .x 20),
  (.bin .neq (.x 20) (.s 0 0), .b true),
  (.idx (.x 20) (.i .i64 (.ofNat 0)), .i .u8 (.ofNat 1)),
  (.len (.x 20), .x 21),
  (.bin .lss (.x 21) (.i .i64 (.ofNat 8)), .b false),
  (.idx (.x 20) (.i .i64 (.ofNat 4)), .x 22),
  (.conv 3 (.x 22), .x 23),
  (.bin .shl (.x 23) (.i .u64 (.ofNat 8)), .x 24),
  (.bin .add (.i .i64 (.ofNat 8)) (.x 24), .x 25),
  (.idx (.x 20) (.i .i64 (.ofNat 5)), .x 26),
  (.conv 3 (.x 26), .x 27),
  (.bin .add (.x 25) (.x 27), .x 28),
  (.idx (.x 20) (.i .i64 (.ofNat 6)), .i .u8 (.ofNat 0)),
  (.bin .add (.x 28) (.i .i64 (.ofNat 0)), .x 29),
  (.bin .lss (.x 21) (.x 29), .b false),
  (.idx (.x 20) (.i .i64 (.ofNat 1)), .x 30),
  (.bin .eql (.x 30) (.i .u8 (.ofNat 0)), .b false),
  (.conv 3 (.x 30), .x 31),
  (.idx (.x 20) (.i .i64 (.ofNat 2)), .x 32),
  (.conv 3 (.x 32), .x 33),
  (.bin .shl (.x 33) (.i .u64 (.ofNat 8)), .x 34),
  (.idx (.x 20) (.i .i64 (.ofNat 3)), .x 35),
  (.conv 3 (.x 35), .x 36),
  (.bin .or (.x 34) (.x 36), .x 37),
  (.bin .sub (.x 29) (.i .i64 (.ofNat 0)), .x 38),
  (.sub (.x 20) (some (.i .i64 (.ofNat 8))) (some (.x 38)), .x 39),
  (.sub (.x 20) (some (.x 29)) none, .x 40),
  (.conv 3 (.x 4), .x 41),
  (.bin .rem (.x 41) (.x 19), .x 42),
  (.sub (.x 18) none (some (.x 42)), .x 43),
  (.bin .neq (.x 43) (.s 0 0), .b true),
  (.idx (.x 43) (.i .i64 (.ofNat 0)), .i .u8 (.ofNat 1)),
  (.len (.x 43), .x 44),
  (.bin .lss (.x 44) (.i .i64 (.ofNat 8)), .b true),
  (.eq 3 (.x 31) (.x 7), .b true),
  (.eq 3 (.x 37) (.x 8), .b true),
  (.eq 9 (.x 39) (.x 2), .b true),
  (.bin .eql (.x 40) (.x 3), .b true)]
noncomputable def tab1 : Tab := { tabk with hyp := hy1 }
theorem run1 : okB (call tab1 9000 3 [.x 0, .x 1, .x 2, .b false, .x 3, .x 4] ⟨H0 , 1, 0, 0⟩) = true := by kernel_rfl
def nu1 (t : Int) (id : Int) (c : List UInt8) (more : List UInt8) (cut : Int) : List Value := [.int .u8 (t),
  .int .u16 (id),
  St' c,
  St' more,
  .int .u16 (cut),
  .int .i64 ((c.length : Int)),
  .int .i64 ((more.length : Int)),
  .int .i64 (t),
  .int .i64 (id),
  .int .u8 (t),
  .int .i64 (id / 256),
  .int .u8 (id / 256),
  .int .u8 (id % 256),
  .int .i64 (((c.length : Int)) / 256),
  .int .u8 ((((c.length : Int)) / 256) % 256),
  .int .u8 (((c.length : Int)) % 256),
  St' ([u8 1, u8 (t), u8 (id / 256), u8 (id % 256), u8 ((((c.length : Int)) / 256) % 256), u8 (((c.length : Int)) % 256), u8 0, u8 0]),
  St' (([u8 1, u8 (t), u8 (id / 256), u8 (id % 256), u8 ((((c.length : Int)) / 256) % 256), u8 (((c.length : Int)) % 256), u8 0, u8 0] ++ c)),
  St' (([u8 1, u8 (t), u8 (id / 256), u8 (id % 256), u8 ((((c.length : Int)) / 256) % 256), u8 (((c.length : Int)) % 256), u8 0, u8 0] ++ c)),
  .int .i64 ((c.length : Int) + 8),
  St' (([u8 1, u8 (t), u8 (id / 256), u8 (id % 256), u8 ((((c.length : Int)) / 256) % 256), u8 (((c.length : Int)) % 256), u8 0, u8 0] ++ (c ++ more))),
  .int .i64 ((c.length : Int) + (more.length : Int) + 8),
  .int .u8 ((((c.length : Int)) / 256) % 256),
  .int .i64 ((((c.length : Int)) / 256) % 256),
  .int .i64 (((((c.length : Int)) / 256) % 256) * 256),
  .int .i64 (8 + (((((c.length : Int)) / 256) % 256) * 256)),
  .int .u8 (((c.length : Int)) % 256),
  .int .i64 (((c.length : Int)) % 256),
  .int .i64 ((8 + (((((c.length : Int)) / 256) % 256) * 256)) + (((c.length : Int)) % 256)),
  .int .i64 (((8 + (((((c.length : Int)) / 256) % 256) * 256)) + (((c.length : Int)) % 256)) + 0),
  .int .u8 (t),
  .int .i64 (t),
  .int .u8 (id / 256),
  .int .i64 (id / 256),
  .int .i64 ((id / 256) * 256),
  .int .u8 (id % 256),
  .int .i64 (id % 256),
  .int .i64 (((id / 256) * 256) + (id % 256)),
  .int .i64 ((((8 + (((((c.length : Int)) / 256) % 256) * 256)) + (((c.length : Int)) % 256)) + 0) - 0),
  St' c,
  St' more,
  .int .i64 (cut),
  .int .i64 (cut % ((c.length : Int) + 8)),
  St' ((List.take (cut % ((c.length : Int) + 8)).toNat (([u8 1, u8 (t), u8 (id / 256), u8 (id % 256), u8 ((((c.length : Int)) / 256) % 256), u8 (((c.length : Int)) % 256), u8 0, u8 0] ++ c)))),
  .int .i64 ((cut % ((c.length : Int) + 8)))]
theorem one1 (t : Int) (id : Int) (c : List UInt8) (more : List UInt8) (cut : Int) : ∀ j, (nuL (nu1 t id c more cut) j).oneCell' = true := nuL_one (l := nu1 t id c more cut) rfl
set_option maxHeartbeats 2000000 in
theorem hyOk1 (t : Int) (id : Int) (c : List UInt8) (more : List UInt8) (cut : Int) (b0 : 0 ≤ t) (b1 : t ≤ 255) (b2 : 0 ≤ id) (b3 : id ≤ 65535) (b4 : c.length ≤ 9223372036854775807) (b5 : more.length ≤ 9223372036854775807) (b6 : 0 ≤ cut) (b7 : cut ≤ 65535) (h0 : ¬ (2000 < (c.length : Int))) (h1 : ¬ (200 < (more.length : Int))) (h2 : ¬ (t = 0)) (h13 : ¬ ((cut % ((c.length : Int) + 8)) = 0)) (h14 : (cut % ((c.length : Int) + 8)) < 8) : ∀ k r, (k, r) ∈ hy1 → HOk (cx (nuL (nu1 t id c more cut)) (one1 t id c more cut) 0 laidE laidE_stab) k r := by
  have := Int.emod_nonneg cut (show ((c.length : Int) + 8) ≠ 0 by omega); have := Int.emod_lt_of_pos cut (show 0 < ((c.length : Int) + 8) by omega)
  unfold hy1
  refine hcons (kLenE (isX rfl) (denX rfl) (by first | omega | (simp only [List.length_append, List.length_cons, List.length_nil, List.length_take, List.length_drop, Int.natCast_add] at *; omega))) ?_
  refine hcons (kGt (isX rfl) (isZ (m := 2000) rfl) (decide_eq_false (by omega))) ?_
  refine hcons (kLenE (isX rfl) (denX rfl) (by first | omega | (simp only [List.length_append, List.length_cons, List.length_nil, List.length_take, List.length_drop, Int.natCast_add] at *; omega))) ?_
  refine hcons (kGt (isX rfl) (isZ (m := 200) rfl) (decide_eq_false (by omega))) ?_
  refine hcons (kEqI (isX rfl) (isZ (m := 0) rfl) (decide_eq_false (by omega))) ?_
  refine hcons (kConvF (isX rfl) tu3 (denX rfl) (fI64 (by omega) (by omega))) ?_
  refine hcons (kConvF (isX rfl) tu3 (denX rfl) (fI64 (by omega) (by omega))) ?_
  refine hcons (kGe (isX rfl) (isZ (m := 1) rfl) (decide_eq_true (by omega))) ?_
  refine hcons (kLe (isX rfl) (isZ (m := 255) rfl) (decide_eq_true (by omega))) ?_
  refine hcons (kGe (isX rfl) (isZ (m := 0) rfl) (decide_eq_true (by omega))) ?_
  refine hcons (kLe (isX rfl) (isZ (m := 65535) rfl) (decide_eq_true (by omega))) ?_
  refine hcons (kLe (isX rfl) (isZ (m := 65535) rfl) (decide_eq_true (by omega))) ?_
  refine hcons (kConvF (isX rfl) tu5 (denX rfl) (fU8 (by omega) (by omega))) ?_
  refine hcons (kShrM 8 256 rfl (isX rfl) (isZ (m := 8) rfl) (denX rfl) rfl (by decide) (by omega) rfl) ?_
  refine hcons (kConvF (isX rfl) tu5 (denX rfl) (fU8 (by omega) (by omega))) ?_
  refine hcons (kConv8 (isX rfl) tu5 (denX rfl) rfl) ?_
  refine hcons (kShrM 8 256 rfl (isX rfl) (isZ (m := 8) rfl) (denX rfl) rfl (by decide) (by omega) rfl) ?_
  refine hcons (kConv8 (isX rfl) tu5 (denX rfl) rfl) ?_
  refine hcons (kConv8 (isX rfl) tu5 (denX rfl) rfl) ?_
  refine hcons (kBytesB (bs := [u8 1, u8 (t), u8 (id / 256), u8 (id % 256), u8 ((((c.length : Int)) / 256) % 256), u8 (((c.length : Int)) % 256), u8 0, u8 0]) (.cons (isB8 (isZ (m := 1) rfl) (by omega) (by omega)) (.cons (isB8 (isX rfl) (by omega) (by omega)) (.cons (isB8 (isX rfl) (by omega) (by omega)) (.cons (isB8 (isX rfl) (by omega) (by omega)) (.cons (isB8 (isX rfl) (by omega) (by omega)) (.cons (isB8 (isX rfl) (by omega) (by omega)) (.cons (isB8 (isZ (m := 0) rfl) (by omega) (by omega)) (.cons (isB8 (isZ (m := 0) rfl) (by omega) (by omega)) .nil)))))))) (denX rfl)) ?_
  refine hcons (kCat (isX rfl) (isX rfl) (denX rfl) (by first | rfl | (simp only [List.append_assoc, List.cons_append, List.nil_append, List.append_nil]; done)) (by first | omega | (simp only [List.length_append, List.length_cons, List.length_nil, List.length_take, List.length_drop, Int.natCast_add] at *; omega))) ?_
  refine hcons (kCat (isX rfl) (isSx (l := ([] : List UInt8)) 0 0 rfl) (denX rfl) (by first | rfl | (simp only [List.append_assoc, List.cons_append, List.nil_append, List.append_nil]; done)) (by first | omega | (simp only [List.length_append, List.length_cons, List.length_nil, List.length_take, List.length_drop, Int.natCast_add] at *; omega))) ?_
  refine hcons (kLenE (isX rfl) (denX rfl) (by first | omega | (simp only [List.length_append, List.length_cons, List.length_nil, List.length_take, List.length_drop, Int.natCast_add] at *; omega))) ?_
  refine hcons (kLt (isX rfl) (isZ (m := 8) rfl) (decide_eq_false (by omega))) ?_
  refine hcons (kCat (isX rfl) (isX rfl) (denX rfl) (by first | rfl | (simp only [List.append_assoc, List.cons_append, List.nil_append, List.append_nil]; done)) (by first | omega | (simp only [List.length_append, List.length_cons, List.length_nil, List.length_take, List.length_drop, Int.natCast_add] at *; omega))) ?_
  refine hcons (kNeS (isX rfl) (isSx (l := ([] : List UInt8)) 0 0 rfl) (bnT (by first | exact nilT (by first | omega | (simp only [List.length_append, List.length_cons, List.length_nil, List.length_take, List.length_drop, Int.natCast_add] at *; omega)) | exact nilF (by first | omega | (simp only [List.length_append, List.length_cons, List.length_nil, List.length_take, List.length_drop, Int.natCast_add] at *; omega)) | exact nilT' (by first | omega | (simp only [List.length_append, List.length_cons, List.length_nil, List.length_take, List.length_drop, Int.natCast_add] at *; omega)) | exact nilF' (by first | omega | (simp only [List.length_append, List.length_cons, List.length_nil, List.length_take, List.length_drop, Int.natCast_add] at *; omega))))) ?_
  refine hcons (kIdxE (i := 0) (isX rfl) (isZ (m := 0) rfl) (denZ (m := 1) rfl) rfl (by first | omega | (simp only [List.length_append, List.length_cons, List.length_nil, List.length_take, List.length_drop, Int.natCast_add] at *; omega)) (bt_at rfl (by omega) (by omega))) ?_
  refine hcons (kLenE (isX rfl) (denX rfl) (by first | omega | (simp only [List.length_append, List.length_cons, List.length_nil, List.length_take, List.length_drop, Int.natCast_add] at *; omega))) ?_
  refine hcons (kLt (isX rfl) (isZ (m := 8) rfl) (decide_eq_false (by omega))) ?_
  refine hcons (kIdxE (i := 4) (isX rfl) (isZ (m := 4) rfl) (denX rfl) rfl (by first | omega | (simp only [List.length_append, List.length_cons, List.length_nil, List.length_take, List.length_drop, Int.natCast_add] at *; omega)) (bt_at rfl (by omega) (by omega))) ?_
  refine hcons (kConvF (isX rfl) tu3 (denX rfl) (fI64 (by omega) (by omega))) ?_
  refine hcons (kShlM 8 256 rfl (isX rfl) (isZ (m := 8) rfl) (denX rfl) rfl (by decide) rfl (fI64 (by omega) (by omega))) ?_
  refine hcons (kAdd (isZ (m := 8) rfl) (isX rfl) (denX rfl) rfl (fI64 (by omega) (by omega))) ?_
  refine hcons (kIdxE (i := 5) (isX rfl) (isZ (m := 5) rfl) (denX rfl) rfl (by first | omega | (simp only [List.length_append, List.length_cons, List.length_nil, List.length_take, List.length_drop, Int.natCast_add] at *; omega)) (bt_at rfl (by omega) (by omega))) ?_
  refine hcons (kConvF (isX rfl) tu3 (denX rfl) (fI64 (by omega) (by omega))) ?_
  refine hcons (kAdd (isX rfl) (isX rfl) (denX rfl) rfl (fI64 (by omega) (by omega))) ?_
  refine hcons (kIdxE (i := 6) (isX rfl) (isZ (m := 6) rfl) (denZ (m := 0) rfl) rfl (by first | omega | (simp only [List.length_append, List.length_cons, List.length_nil, List.length_take, List.length_drop, Int.natCast_add] at *; omega)) (bt_at rfl (by omega) (by omega))) ?_
  refine hcons (kAdd (isX rfl) (isZ (m := 0) rfl) (denX rfl) rfl (fI64 (by omega) (by omega))) ?_
  refine hcons (kLt (isX rfl) (isX rfl) (decide_eq_false (by omega))) ?_
  refine hcons (kIdxE (i := 1) (isX rfl) (isZ (m := 1) rfl) (denX rfl) rfl (by first | omega | (simp only [List.length_append, List.length_cons, List.length_nil, List.length_take, List.length_drop, Int.natCast_add] at *; omega)) (bt_at rfl (by omega) (by omega))) ?_
  refine hcons (kEqI (isX rfl) (isZ (m := 0) rfl) (decide_eq_false (by omega))) ?_
  refine hcons (kConvF (isX rfl) tu3 (denX rfl) (fI64 (by omega) (by omega))) ?_
  refine hcons (kIdxE (i := 2) (isX rfl) (isZ (m := 2) rfl) (denX rfl) rfl (by first | omega | (simp only [List.length_append, List.length_cons, List.length_nil, List.length_take, List.length_drop, Int.natCast_add] at *; omega)) (bt_at rfl (by omega) (by omega))) ?_
  refine hcons (kConvF (isX rfl) tu3 (denX rfl) (fI64 (by omega) (by omega))) ?_
  refine hcons (kShlM 8 256 rfl (isX rfl) (isZ (m := 8) rfl) (denX rfl) rfl (by decide) rfl (fI64 (by omega) (by omega))) ?_
  refine hcons (kIdxE (i := 3) (isX rfl) (isZ (m := 3) rfl) (denX rfl) rfl (by first | omega | (simp only [List.length_append, List.length_cons, List.length_nil, List.length_take, List.length_drop, Int.natCast_add] at *; omega)) (bt_at rfl (by omega) (by omega))) ?_
  refine hcons (kConvF (isX rfl) tu3 (denX rfl) (fI64 (by omega) (by omega))) ?_
  refine hcons (kOrM 8 256 rfl (isX rfl) (isX rfl) (denX rfl) (by omega) (by omega) (fI64 (by omega) (by omega)) (fI64 (by omega) (by omega)) (by omega) (by omega) rfl (fI64 (by omega) (by omega))) ?_
  refine hcons (kSub (isX rfl) (isZ (m := 0) rfl) (denX rfl) rfl (fI64 (by omega) (by omega))) ?_
  refine hcons (kCut (isX rfl) (.inr ⟨_, _, rfl, (isZ (m := 8) rfl)⟩) (.inr ⟨_, _, rfl, (isX rfl)⟩) (p := [u8 1, u8 (t), u8 (id / 256), u8 (id % 256), u8 ((((c.length : Int)) / 256) % 256), u8 (((c.length : Int)) % 256), u8 0, u8 0]) (m := c) (q := more) (by first | rfl | (simp only [List.append_assoc, List.cons_append, List.nil_append, List.append_nil]; done)) (by first | omega | (simp only [List.length_append, List.length_cons, List.length_nil, List.length_take, List.length_drop, Int.natCast_add] at *; omega)) (by first | omega | (simp only [List.length_append, List.length_cons, List.length_nil, List.length_take, List.length_drop, Int.natCast_add] at *; omega)) (denX rfl)) ?_
  refine hcons (kCut (isX rfl) (.inr ⟨_, _, rfl, (isX rfl)⟩) (.inl ⟨rfl, rfl⟩) (p := ([u8 1, u8 (t), u8 (id / 256), u8 (id % 256), u8 ((((c.length : Int)) / 256) % 256), u8 (((c.length : Int)) % 256), u8 0, u8 0] ++ c)) (m := more) (q := ([] : List UInt8)) (by first | rfl | (simp only [List.append_assoc, List.cons_append, List.nil_append, List.append_nil]; done)) (by first | omega | (simp only [List.length_append, List.length_cons, List.length_nil, List.length_take, List.length_drop, Int.natCast_add] at *; omega)) (by first | omega | (simp only [List.length_append, List.length_cons, List.length_nil, List.length_take, List.length_drop, Int.natCast_add] at *; omega)) (denX rfl)) ?_
  refine hcons (kConvF (isX rfl) tu3 (denX rfl) (fI64 (by omega) (by omega))) ?_
  refine hcons (kRem (isX rfl) (isX rfl) (denX rfl) (by omega) (by omega) rfl) ?_
  refine hcons (kTake (isX rfl) (isX rfl) (by first | omega | (simp only [List.length_append, List.length_cons, List.length_nil, List.length_take, List.length_drop, Int.natCast_add] at *; omega)) (by first | omega | (simp only [List.length_append, List.length_cons, List.length_nil, List.length_take, List.length_drop, Int.natCast_add] at *; omega)) (denX rfl)) ?_
  refine hcons (kNeS (isX rfl) (isSx (l := ([] : List UInt8)) 0 0 rfl) (bnT (by first | exact nilT (by first | omega | (simp only [List.length_append, List.length_cons, List.length_nil, List.length_take, List.length_drop, Int.natCast_add] at *; omega)) | exact nilF (by first | omega | (simp only [List.length_append, List.length_cons, List.length_nil, List.length_take, List.length_drop, Int.natCast_add] at *; omega)) | exact nilT' (by first | omega | (simp only [List.length_append, List.length_cons, List.length_nil, List.length_take, List.length_drop, Int.natCast_add] at *; omega)) | exact nilF' (by first | omega | (simp only [List.length_append, List.length_cons, List.length_nil, List.length_take, List.length_drop, Int.natCast_add] at *; omega))))) ?_
  refine hcons (kIdxE (i := 0) (isX rfl) (isZ (m := 0) rfl) (denZ (m := 1) rfl) rfl (by first | omega | (simp only [List.length_append, List.length_cons, List.length_nil, List.length_take, List.length_drop, Int.natCast_add] at *; omega)) ((bt_take (by omega)).trans (bt_at rfl (by omega) (by omega)))) ?_
  refine hcons (kLenE (isX rfl) (denX rfl) (by first | omega | (simp only [List.length_append, List.length_cons, List.length_nil, List.length_take, List.length_drop, Int.natCast_add] at *; omega))) ?_
  refine hcons (kLt (isX rfl) (isZ (m := 8) rfl) (decide_eq_true (by omega))) ?_
  refine hcons (kEqT (isX rfl) (isX rfl) tu3 (decide_eq_true (by omega))) ?_
  refine hcons (kEqT (isX rfl) (isX rfl) tu3 (decide_eq_true (by omega))) ?_
  refine hcons (kEqTS (isX rfl) (isX rfl) tu9 (decide_eq_true rfl)) ?_
  refine hcons (kEqS (isX rfl) (isX rfl) (decide_eq_true rfl)) ?_
  exact hnil
theorem path1 (t : Int) (id : Int) (c : List UInt8) (more : List UInt8) (cut : Int) (b0 : 0 ≤ t) (b1 : t ≤ 255) (b2 : 0 ≤ id) (b3 : id ≤ 65535) (b4 : c.length ≤ 9223372036854775807) (b5 : more.length ≤ 9223372036854775807) (b6 : 0 ≤ cut) (b7 : cut ≤ 65535) (h0 : ¬ (2000 < (c.length : Int))) (h1 : ¬ (200 < (more.length : Int))) (h2 : ¬ (t = 0)) (h13 : ¬ ((cut % ((c.length : Int) + 8)) = 0)) (h14 : (cut % ((c.length : Int) + 8)) < 8) (w : World) (hl : laidE w) : Calls Try.prog 3 #[.int .u8 t, .int .u16 id, St' c, .bool false, St' more, .int .u16 cut] w fun e w' => e = .returned (.bool true) ∧ Go.AX.Below w.heap.size w w' := by
  obtain ⟨fi, hfi, hb⟩ : ∃ fi, tabk.fn.get 3 = some fi ∧ fi.body.isSome = true := ⟨_, rfl, by kernel_rfl⟩
  exact runP (tb := tab1) ((tabkOk (nuL (nu1 t id c more cut)) (one1 t id c more cut)).hyps (hyOk1 t id c more cut b0 b1 b2 b3 b4 b5 b6 b7 h0 h1 h2 h13 h14)) rfl hfi hb (run1 ) (args := [.int .u8 t, .int .u16 id, St' c, .bool false, St' more, .int .u16 cut]) (by simp only [RelL, Rel]; exact ⟨_, _, rfl, rfl, ⟨_, _, rfl, rfl, ⟨_, _, rfl, rfl, ⟨_, _, rfl, rfl, ⟨_, _, rfl, rfl, ⟨_, _, rfl, rfl, rfl⟩⟩⟩⟩⟩⟩) w hl
def hy2 : List (HK × AV) := [(.len (.x 2), .x 5),
  (.bin .gtr (.x 5) (.i .i64 (.ofNat 2000)), .b false),
  (.len (.x 3), .x 6),
  (.bin .gtr (.x 6) (.i .i64 (.ofNat 200)), .b false),
  (.bin .eql (.x 0) (.i .u8 (.ofNat 0)), .b false),
  (.conv 3 (.x 0), .x 7),
  (.conv 3 (.x 1), .x 8),
  (.bin .geq (.x 7) (.i .i64 (.ofNat 1)), .b true),
  (.bin .leq (.x 7) (.i .i64 (.ofNat 255)), .b true),
  (.bin .geq (.x 8) (.i .i64 (.ofNat 0)), .b true),
  (.bin .leq (.x 8) (.i .i64 (.ofNat 65535)), .b true),
  (.bin .leq (.x 5) (.i .i64 (.ofNat 65535)), .b true),
  (.conv 5 (.x 7), .x 9),
  (.bin .shr (.x 8) (.i .u64 (.ofNat 8)), .x 10),
  (.conv 5 (.x 10), .x 11),
  (.conv 5 (.x 8), .x 12),
  (.bin .shr (.x 5) (.i .u64 (.ofNat 8)), .x 13),
  (.conv 5 (.x 13), .x 14),
  (.conv 5 (.x 5), .x 15),
  (.bytes [.i .u8 (.ofNat 1), .x 9, .x 11, .x 12, .x 14, .x 15, .i .u8 (.ofNat 0), .i .u8 (.ofNat 0)], .x 16),
  (.bin .add (.x 16) (.x 2), .x 17),
  (.bin .add (.x 17) (.s 0 0), .x 18),
  (.len (.x 18), .x 19),
  (.bin .lss (.x 19) (.i .i64 (.ofNat 8)), .b false),
  (.bin .add (.x 18) (.x 3), .x 20),
  (.bin .neq (.x 20) (.s 0 0), .b true),
  (.idx (.x 20) (.i .i64 (.ofNat 0)), .i .u8 (.ofNat 1)),
  (.len (.x 20), .x 21),
  (.bin .lss (.x 21) (.i .i64 (.ofNat 8)), .b false),
  (.idx (.x 20) (.i .i64 (.ofNat 4)), .x 22),
  (.conv 3 (.x 22), .x 23),
  (.bin .shl (.x 23) (.i .u64 (.ofNat 8)), .x 24),
  (.bin .add (.i .i64 (.ofNat 8)) (.x 24), .x 25),
  (.idx (.x 20) (.i .i64 (.ofNat 5)), .x 26),
  (.conv 3 (.x 26), .x 27),
  (.bin .add (.x 25) (.x 27), .x 28),
  (.idx (.x 20) (.i .i64 (.ofNat 6)), .i .u8 (.ofNat 0)),
  (.bin .add (.x 28) (.i .i64 (.ofNat 0)), .x 29),
  (.bin .lss (.x 21) (.x 29), .b false),
  (.idx (.x 20) (.i .i64 (.ofNat 1)), .x 30),
  (.bin .eql (.x 30) (.i .u8 (.ofNat 0)), .b false),
  (.conv 3 (.x 30), .x 31),
  (.idx (.x 20) (.i .i64 (.ofNat 2)), .x 32),
  (.conv 3 (.x 32), .x 33),
  (.bin .shl (.x 33) (.i .u64 (.ofNat 8)), .x 34),
  (.idx (.x 20) (.i .i64 (.ofNat 3)), .x 35),
  (.conv 3 (.x 35), .x 36),
  (.bin .or (.x 34) (.x 36), .x 37),
  (.bin .sub (.x 29) (.i .i64 (.ofNat 0)), .x 38),
  (.sub (.x 20) (some (.i .i64 (.ofNat 8))) (some (.x 38)), .x 39),
  (.sub (.x 20) (some (.x 29)) none, .x 40),
  (.conv 3 (.x 4), .x 41),
  (.bin .rem (.x 41) (.x 19), .x 42),
  (.sub (.x 18) none (some (.x 42)), .x 43),
  (.bin .neq (.x 43) (.s 0 0), .b true),
  (.idx (.x 43) (.i .i64 (.ofNat 0)), .i .u8 (.ofNat 1)),
  (.len (.x 43), .x 44),
  (.bin .lss (.x 44) (.i .i64 (.ofNat 8)), .b false),
  (.idx (.x 43) (.i .i64 (.ofNat 4)), .x 45),
  (.conv 3 (.x 45), .x 46),
  (.bin .shl (.x 46) (.i .u64 (.ofNat 8)), .x 47),
  (.bin .add (.i .i64 (.ofNat 8)) (.x 47), .x 48),
  (.idx (.x 43) (.i .i64 (.ofNat 5)), .x 49),
  (.conv 3 (.x 49), .x 50),
  (.bin .add (.x 48) (.x 50), .x 51),
  (.idx (.x 43) (.i .i64 (.ofNat 6)), .i .u8 (.ofNat 0)),
  (.bin .add (.x 51) (.i .i64 (.ofNat 0)), .x 52),
  (.bin .lss (.x 44) (.x 52), .b true),
  (.eq 3 (.x 31) (.x 7), .b true),
  (.eq 3 (.x 37) (.x 8), .b true),
  (.eq 9 (.x 39) (.x 2), .b true),
  (.bin .eql (.x 40) (.x 3), .b true)]
noncomputable def tab2 : Tab := { tabk with hyp := hy2 }
theorem run2 : okB (call tab2 9000 3 [.x 0, .x 1, .x 2, .b false, .x 3, .x 4] ⟨H0 , 1, 0, 0⟩) = true := by kernel_rfl
def nu2 (t : Int) (id : Int) (c : List UInt8) (more : List UInt8) (cut : Int) : List Value := [.int .u8 (t),
  .int .u16 (id),
  St' c,
  St' more,
  .int .u16 (cut),
  .int .i64 ((c.length : Int)),
  .int .i64 ((more.length : Int)),
  .int .i64 (t),
  .int .i64 (id),
  .int .u8 (t),
  .int .i64 (id / 256),
  .int .u8 (id / 256),
  .int .u8 (id % 256),
  .int .i64 (((c.length : Int)) / 256),
  .int .u8 ((((c.length : Int)) / 256) % 256),
  .int .u8 (((c.length : Int)) % 256),
  St' ([u8 1, u8 (t), u8 (id / 256), u8 (id % 256), u8 ((((c.length : Int)) / 256) % 256), u8 (((c.length : Int)) % 256), u8 0, u8 0]),
  St' (([u8 1, u8 (t), u8 (id / 256), u8 (id % 256), u8 ((((c.length : Int)) / 256) % 256), u8 (((c.length : Int)) % 256), u8 0, u8 0] ++ c)),
  St' (([u8 1, u8 (t), u8 (id / 256), u8 (id % 256), u8 ((((c.length : Int)) / 256) % 256), u8 (((c.length : Int)) % 256), u8 0, u8 0] ++ c)),
  .int .i64 ((c.length : Int) + 8),
  St' (([u8 1, u8 (t), u8 (id / 256), u8 (id % 256), u8 ((((c.length : Int)) / 256) % 256), u8 (((c.length : Int)) % 256), u8 0, u8 0] ++ (c ++ more))),
  .int .i64 ((c.length : Int) + (more.length : Int) + 8),
  .int .u8 ((((c.length : Int)) / 256) % 256),
  .int .i64 ((((c.length : Int)) / 256) % 256),
  .int .i64 (((((c.length : Int)) / 256) % 256) * 256),
  .int .i64 (8 + (((((c.length : Int)) / 256) % 256) * 256)),
  .int .u8 (((c.length : Int)) % 256),
  .int .i64 (((c.length : Int)) % 256),
  .int .i64 ((8 + (((((c.length : Int)) / 256) % 256) * 256)) + (((c.length : Int)) % 256)),
  .int .i64 (((8 + (((((c.length : Int)) / 256) % 256) * 256)) + (((c.length : Int)) % 256)) + 0),
  .int .u8 (t),
  .int .i64 (t),
  .int .u8 (id / 256),
  .int .i64 (id / 256),
  .int .i64 ((id / 256) * 256),
  .int .u8 (id % 256),
  .int .i64 (id % 256),
  .int .i64 (((id / 256) * 256) + (id % 256)),
  .int .i64 ((((8 + (((((c.length : Int)) / 256) % 256) * 256)) + (((c.length : Int)) % 256)) + 0) - 0),
  St' c,
  St' more,
  .int .i64 (cut),
  .int .i64 (cut % ((c.length : Int) + 8)),
  St' ((List.take (cut % ((c.length : Int) + 8)).toNat (([u8 1, u8 (t), u8 (id / 256), u8 (id % 256), u8 ((((c.length : Int)) / 256) % 256), u8 (((c.length : Int)) % 256), u8 0, u8 0] ++ c)))),
  .int .i64 ((cut % ((c.length : Int) + 8))),
  .int .u8 ((((c.length : Int)) / 256) % 256),
  .int .i64 ((((c.length : Int)) / 256) % 256),
  .int .i64 (((((c.length : Int)) / 256) % 256) * 256),
  .int .i64 (8 + (((((c.length : Int)) / 256) % 256) * 256)),
  .int .u8 (((c.length : Int)) % 256),
  .int .i64 (((c.length : Int)) % 256),
  .int .i64 ((8 + (((((c.length : Int)) / 256) % 256) * 256)) + (((c.length : Int)) % 256)),
  .int .i64 (((8 + (((((c.length : Int)) / 256) % 256) * 256)) + (((c.length : Int)) % 256)) + 0)]
theorem one2 (t : Int) (id : Int) (c : List UInt8) (more : List UInt8) (cut : Int) : ∀ j, (nuL (nu2 t id c more cut) j).oneCell' = true := nuL_one (l := nu2 t id c more cut) rfl
set_option maxHeartbeats 2000000 in
theorem hyOk2 (t : Int) (id : Int) (c : List UInt8) (more : List UInt8) (cut : Int) (b0 : 0 ≤ t) (b1 : t ≤ 255) (b2 : 0 ≤ id) (b3 : id ≤ 65535) (b4 : c.length ≤ 9223372036854775807) (b5 : more.length ≤ 9223372036854775807) (b6 : 0 ≤ cut) (b7 : cut ≤ 65535) (h0 : ¬ (2000 < (c.length : Int))) (h1 : ¬ (200 < (more.length : Int))) (h2 : ¬ (t = 0)) (h13 : ¬ ((cut % ((c.length : Int) + 8)) = 0)) (h14 : ¬ ((cut % ((c.length : Int) + 8)) < 8)) : ∀ k r, (k, r) ∈ hy2 → HOk (cx (nuL (nu2 t id c more cut)) (one2 t id c more cut) 0 laidE laidE_stab) k r := by
  have := Int.emod_nonneg cut (show ((c.length : Int) + 8) ≠ 0 by omega); have := Int.emod_lt_of_pos cut (show 0 < ((c.length : Int) + 8) by omega)
  unfold hy2
  refine hcons (kLenE (isX rfl) (denX rfl) (by first | omega | (simp only [List.length_append, List.length_cons, List.length_nil, List.length_take, List.length_drop, Int.natCast_add] at *; omega))) ?_
  refine hcons (kGt (isX rfl) (isZ (m := 2000) rfl) (decide_eq_false (by omega))) ?_
  refine hcons (kLenE (isX rfl) (denX rfl) (by first | omega | (simp only [List.length_append, List.length_cons, List.length_nil, List.length_take, List.length_drop, Int.natCast_add] at *; omega))) ?_
  refine hcons (kGt (isX rfl) (isZ (m := 200) rfl) (decide_eq_false (by omega))) ?_
  refine hcons (kEqI (isX rfl) (isZ (m := 0) rfl) (decide_eq_false (by omega))) ?_
  refine hcons (kConvF (isX rfl) tu3 (denX rfl) (fI64 (by omega) (by omega))) ?_
  refine hcons (kConvF (isX rfl) tu3 (denX rfl) (fI64 (by omega) (by omega))) ?_
  refine hcons (kGe (isX rfl) (isZ (m := 1) rfl) (decide_eq_true (by omega))) ?_
  refine hcons (kLe (isX rfl) (isZ (m := 255) rfl) (decide_eq_true (by omega))) ?_
  refine hcons (kGe (isX rfl) (isZ (m := 0) rfl) (decide_eq_true (by omega))) ?_
  refine hcons (kLe (isX rfl) (isZ (m := 65535) rfl) (decide_eq_true (by omega))) ?_
  refine hcons (kLe (isX rfl) (isZ (m := 65535) rfl) (decide_eq_true (by omega))) ?_
  refine hcons (kConvF (isX rfl) tu5 (denX rfl) (fU8 (by omega) (by omega))) ?_
  refine hcons (kShrM 8 256 rfl (isX rfl) (isZ (m := 8) rfl) (denX rfl) rfl (by decide) (by omega) rfl) ?_
  refine hcons (kConvF (isX rfl) tu5 (denX rfl) (fU8 (by omega) (by omega))) ?_
  refine hcons (kConv8 (isX rfl) tu5 (denX rfl) rfl) ?_
  refine hcons (kShrM 8 256 rfl (isX rfl) (isZ (m := 8) rfl) (denX rfl) rfl (by decide) (by omega) rfl) ?_
  refine hcons (kConv8 (isX rfl) tu5 (denX rfl) rfl) ?_
  refine hcons (kConv8 (isX rfl) tu5 (denX rfl) rfl) ?_
  refine hcons (kBytesB (bs := [u8 1, u8 (t), u8 (id / 256), u8 (id % 256), u8 ((((c.length : Int)) / 256) % 256), u8 (((c.length : Int)) % 256), u8 0, u8 0]) (.cons (isB8 (isZ (m := 1) rfl) (by omega) (by omega)) (.cons (isB8 (isX rfl) (by omega) (by omega)) (.cons (isB8 (isX rfl) (by omega) (by omega)) (.cons (isB8 (isX rfl) (by omega) (by omega)) (.cons (isB8 (isX rfl) (by omega) (by omega)) (.cons (isB8 (isX rfl) (by omega) (by omega)) (.cons (isB8 (isZ (m := 0) rfl) (by omega) (by omega)) (.cons (isB8 (isZ (m := 0) rfl) (by omega) (by omega)) .nil)))))))) (denX rfl)) ?_
  refine hcons (kCat (isX rfl) (isX rfl) (denX rfl) (by first | rfl | (simp only [List.append_assoc, List.cons_append, List.nil_append, List.append_nil]; done)) (by first | omega | (simp only [List.length_append, List.length_cons, List.length_nil, List.length_take, List.length_drop, Int.natCast_add] at *; omega))) ?_
  refine hcons (kCat (isX rfl) (isSx (l := ([] : List UInt8)) 0 0 rfl) (denX rfl) (by first | rfl | (simp only [List.append_assoc, List.cons_append, List.nil_append, List.append_nil]; done)) (by first | omega | (simp only [List.length_append, List.length_cons, List.length_nil, List.length_take, List.length_drop, Int.natCast_add] at *; omega))) ?_
  refine hcons (kLenE (isX rfl) (denX rfl) (by first | omega | (simp only [List.length_append, List.length_cons, List.length_nil, List.length_take, List.length_drop, Int.natCast_add] at *; omega))) ?_
  refine hcons (kLt (isX rfl) (isZ (m := 8) rfl) (decide_eq_false (by omega))) ?_
  refine hcons (kCat (isX rfl) (isX rfl) (denX rfl) (by first | rfl | (simp only [List.append_assoc, List.cons_append, List.nil_append, List.append_nil]; done)) (by first | omega | (simp only [List.length_append, List.length_cons, List.length_nil, List.length_take, List.length_drop, Int.natCast_add] at *; omega))) ?_
  refine hcons (kNeS (isX rfl) (isSx (l := ([] : List UInt8)) 0 0 rfl) (bnT (by first | exact nilT (by first | omega | (simp only [List.length_append, List.length_cons, List.length_nil, List.length_take, List.length_drop, Int.natCast_add] at *; omega)) | exact nilF (by first | omega | (simp only [List.length_append, List.length_cons, List.length_nil, List.length_take, List.length_drop, Int.natCast_add] at *; omega)) | exact nilT' (by first | omega | (simp only [List.length_append, List.length_cons, List.length_nil, List.length_take, List.length_drop, Int.natCast_add] at *; omega)) | exact nilF' (by first | omega | (simp only [List.length_append, List.length_cons, List.length_nil, List.length_take, List.length_drop, Int.natCast_add] at *; omega))))) ?_
  refine hcons (kIdxE (i := 0) (isX rfl) (isZ (m := 0) rfl) (denZ (m := 1) rfl) rfl (by first | omega | (simp only [List.length_append, List.length_cons, List.length_nil, List.length_take, List.length_drop, Int.natCast_add] at *; omega)) (bt_at rfl (by omega) (by omega))) ?_
  refine hcons (kLenE (isX rfl) (denX rfl) (by first | omega | (simp only [List.length_append, List.length_cons, List.length_nil, List.length_take, List.length_drop, Int.natCast_add] at *; omega))) ?_
  refine hcons (kLt (isX rfl) (isZ (m := 8) rfl) (decide_eq_false (by omega))) ?_
  refine hcons (kIdxE (i := 4) (isX rfl) (isZ (m := 4) rfl) (denX rfl) rfl (by first | omega | (simp only [List.length_append, List.length_cons, List.length_nil, List.length_take, List.length_drop, Int.natCast_add] at *; omega)) (bt_at rfl (by omega) (by omega))) ?_
  refine hcons (kConvF (isX rfl) tu3 (denX rfl) (fI64 (by omega) (by omega))) ?_
  refine hcons (kShlM 8 256 rfl (isX rfl) (isZ (m := 8) rfl) (denX rfl) rfl (by decide) rfl (fI64 (by omega) (by omega))) ?_
  refine hcons (kAdd (isZ (m := 8) rfl) (isX rfl) (denX rfl) rfl (fI64 (by omega) (by omega))) ?_
  refine hcons (kIdxE (i := 5) (isX rfl) (isZ (m := 5) rfl) (denX rfl) rfl (by first | omega | (simp only [List.length_append, List.length_cons, List.length_nil, List.length_take, List.length_drop, Int.natCast_add] at *; omega)) (bt_at rfl (by omega) (by omega))) ?_
  refine hcons (kConvF (isX rfl) tu3 (denX rfl) (fI64 (by omega) (by omega))) ?_
  refine hcons (kAdd (isX rfl) (isX rfl) (denX rfl) rfl (fI64 (by omega) (by omega))) ?_
  refine hcons (kIdxE (i := 6) (isX rfl) (isZ (m := 6) rfl) (denZ (m := 0) rfl) rfl (by first | omega | (simp only [List.length_append, List.length_cons, List.length_nil, List.length_take, List.length_drop, Int.natCast_add] at *; omega)) (bt_at rfl (by omega) (by omega))) ?_
  refine hcons (kAdd (isX rfl) (isZ (m := 0) rfl) (denX rfl) rfl (fI64 (by omega) (by omega))) ?_
  refine hcons (kLt (isX rfl) (isX rfl) (decide_eq_false (by omega))) ?_
  refine hcons (kIdxE (i := 1) (isX rfl) (isZ (m := 1) rfl) (denX rfl) rfl (by first | omega | (simp only [List.length_append, List.length_cons, List.length_nil, List.length_take, List.length_drop, Int.natCast_add] at *; omega)) (bt_at rfl (by omega) (by omega))) ?_
  refine hcons (kEqI (isX rfl) (isZ (m := 0) rfl) (decide_eq_false (by omega))) ?_
  refine hcons (kConvF (isX rfl) tu3 (denX rfl) (fI64 (by omega) (by omega))) ?_
  refine hcons (kIdxE (i := 2) (isX rfl) (isZ (m := 2) rfl) (denX rfl) rfl (by first | omega | (simp only [List.length_append, List.length_cons, List.length_nil, List.length_take, List.length_drop, Int.natCast_add] at *; omega)) (bt_at rfl (by omega) (by omega))) ?_
  refine hcons (kConvF (isX rfl) tu3 (denX rfl) (fI64 (by omega) (by omega))) ?_
  refine hcons (kShlM 8 256 rfl (isX rfl) (isZ (m := 8) rfl) (denX rfl) rfl (by decide) rfl (fI64 (by omega) (by omega))) ?_
  refine hcons (kIdxE (i := 3) (isX rfl) (isZ (m := 3) rfl) (denX rfl) rfl (by first | omega | (simp only [List.length_append, List.length_cons, List.length_nil, List.length_take, List.length_drop, Int.natCast_add] at *; omega)) (bt_at rfl (by omega) (by omega))) ?_
  refine hcons (kConvF (isX rfl) tu3 (denX rfl) (fI64 (by omega) (by omega))) ?_
  refine hcons (kOrM 8 256 rfl (isX rfl) (isX rfl) (denX rfl) (by omega) (by omega) (fI64 (by omega) (by omega)) (fI64 (by omega) (by omega)) (by omega) (by omega) rfl (fI64 (by omega) (by omega))) ?_
  refine hcons (kSub (isX rfl) (isZ (m := 0) rfl) (denX rfl) rfl (fI64 (by omega) (by omega))) ?_
  refine hcons (kCut (isX rfl) (.inr ⟨_, _, rfl, (isZ (m := 8) rfl)⟩) (.inr ⟨_, _, rfl, (isX rfl)⟩) (p := [u8 1, u8 (t), u8 (id / 256), u8 (id % 256), u8 ((((c.length : Int)) / 256) % 256), u8 (((c.length : Int)) % 256), u8 0, u8 0]) (m := c) (q := more) (by first | rfl | (simp only [List.append_assoc, List.cons_append, List.nil_append, List.append_nil]; done)) (by first | omega | (simp only [List.length_append, List.length_cons, List.length_nil, List.length_take, List.length_drop, Int.natCast_add] at *; omega)) (by first | omega | (simp only [List.length_append, List.length_cons, List.length_nil, List.length_take, List.length_drop, Int.natCast_add] at *; omega)) (denX rfl)) ?_
  refine hcons (kCut (isX rfl) (.inr ⟨_, _, rfl, (isX rfl)⟩) (.inl ⟨rfl, rfl⟩) (p := ([u8 1, u8 (t), u8 (id / 256), u8 (id % 256), u8 ((((c.length : Int)) / 256) % 256), u8 (((c.length : Int)) % 256), u8 0, u8 0] ++ c)) (m := more) (q := ([] : List UInt8)) (by first | rfl | (simp only [List.append_assoc, List.cons_append, List.nil_append, List.append_nil]; done)) (by first | omega | (simp only [List.length_append, List.length_cons, List.length_nil, List.length_take, List.length_drop, Int.natCast_add] at *; omega)) (by first | omega | (simp only [List.length_append, List.length_cons, List.length_nil, List.length_take, List.length_drop, Int.natCast_add] at *; omega)) (denX rfl)) ?_
  refine hcons (kConvF (isX rfl) tu3 (denX rfl) (fI64 (by omega) (by omega))) ?_
  refine hcons (kRem (isX rfl) (isX rfl) (denX rfl) (by omega) (by omega) rfl) ?_
  refine hcons (kTake (isX rfl) (isX rfl) (by first | omega | (simp only [List.length_append, List.length_cons, List.length_nil, List.length_take, List.length_drop, Int.natCast_add] at *; omega)) (by first | omega | (simp only [List.length_append, List.length_cons, List.length_nil, List.length_take, List.length_drop, Int.natCast_add] at *; omega)) (denX rfl)) ?_
  refine hcons (kNeS (isX rfl) (isSx (l := ([] : List UInt8)) 0 0 rfl) (bnT (by first | exact nilT (by first | omega | (simp only [List.length_append, List.length_cons, List.length_nil, List.length_take, List.length_drop, Int.natCast_add] at *; omega)) | exact nilF (by first | omega | (simp only [List.length_append, List.length_cons, List.length_nil, List.length_take, List.length_drop, Int.natCast_add] at *; omega)) | exact nilT' (by first | omega | (simp only [List.length_append, List.length_cons, List.length_nil, List.length_take, List.length_drop, Int.natCast_add] at *; omega)) | exact nilF' (by first | omega | (simp only [List.length_append, List.length_cons, List.length_nil, List.length_take, List.length_drop, Int.natCast_add] at *; omega))))) ?_
  refine hcons (kIdxE (i := 0) (isX rfl) (isZ (m := 0) rfl) (denZ (m := 1) rfl) rfl (by first | omega | (simp only [List.length_append, List.length_cons, List.length_nil, List.length_take, List.length_drop, Int.natCast_add] at *; omega)) ((bt_take (by omega)).trans (bt_at rfl (by omega) (by omega)))) ?_
  refine hcons (kLenE (isX rfl) (denX rfl) (by first | omega | (simp only [List.length_append, List.length_cons, List.length_nil, List.length_take, List.length_drop, Int.natCast_add] at *; omega))) ?_
  refine hcons (kLt (isX rfl) (isZ (m := 8) rfl) (decide_eq_false (by omega))) ?_
  refine hcons (kIdxE (i := 4) (isX rfl) (isZ (m := 4) rfl) (denX rfl) rfl (by first | omega | (simp only [List.length_append, List.length_cons, List.length_nil, List.length_take, List.length_drop, Int.natCast_add] at *; omega)) ((bt_take (by omega)).trans (bt_at rfl (by omega) (by omega)))) ?_
  refine hcons (kConvF (isX rfl) tu3 (denX rfl) (fI64 (by omega) (by omega))) ?_
  refine hcons (kShlM 8 256 rfl (isX rfl) (isZ (m := 8) rfl) (denX rfl) rfl (by decide) rfl (fI64 (by omega) (by omega))) ?_
  refine hcons (kAdd (isZ (m := 8) rfl) (isX rfl) (denX rfl) rfl (fI64 (by omega) (by omega))) ?_
  refine hcons (kIdxE (i := 5) (isX rfl) (isZ (m := 5) rfl) (denX rfl) rfl (by first | omega | (simp only [List.length_append, List.length_cons, List.length_nil, List.length_take, List.length_drop, Int.natCast_add] at *; omega)) ((bt_take (by omega)).trans (bt_at rfl (by omega) (by omega)))) ?_
  refine hcons (kConvF (isX rfl) tu3 (denX rfl) (fI64 (by omega) (by omega))) ?_
  refine hcons (kAdd (isX rfl) (isX rfl) (denX rfl) rfl (fI64 (by omega) (by omega))) ?_
  refine hcons (kIdxE (i := 6) (isX rfl) (isZ (m := 6) rfl) (denZ (m := 0) rfl) rfl (by first | omega | (simp only [List.length_append, List.length_cons, List.length_nil, List.length_take, List.length_drop, Int.natCast_add] at *; omega)) ((bt_take (by omega)).trans (bt_at rfl (by omega) (by omega)))) ?_
  refine hcons (kAdd (isX rfl) (isZ (m := 0) rfl) (denX rfl) rfl (fI64 (by omega) (by omega))) ?_
  refine hcons (kLt (isX rfl) (isX rfl) (decide_eq_true (by omega))) ?_
  refine hcons (kEqT (isX rfl) (isX rfl) tu3 (decide_eq_true (by omega))) ?_
  refine hcons (kEqT (isX rfl) (isX rfl) tu3 (decide_eq_true (by omega))) ?_
  refine hcons (kEqTS (isX rfl) (isX rfl) tu9 (decide_eq_true rfl)) ?_
  refine hcons (kEqS (isX rfl) (isX rfl) (decide_eq_true rfl)) ?_
  exact hnil
theorem path2 (t : Int) (id : Int) (c : List UInt8) (more : List UInt8) (cut : Int) (b0 : 0 ≤ t) (b1 : t ≤ 255) (b2 : 0 ≤ id) (b3 : id ≤ 65535) (b4 : c.length ≤ 9223372036854775807) (b5 : more.length ≤ 9223372036854775807) (b6 : 0 ≤ cut) (b7 : cut ≤ 65535) (h0 : ¬ (2000 < (c.length : Int))) (h1 : ¬ (200 < (more.length : Int))) (h2 : ¬ (t = 0)) (h13 : ¬ ((cut % ((c.length : Int) + 8)) = 0)) (h14 : ¬ ((cut % ((c.length : Int) + 8)) < 8)) (w : World) (hl : laidE w) : Calls Try.prog 3 #[.int .u8 t, .int .u16 id, St' c, .bool false, St' more, .int .u16 cut] w fun e w' => e = .returned (.bool true) ∧ Go.AX.Below w.heap.size w w' := by
  obtain ⟨fi, hfi, hb⟩ : ∃ fi, tabk.fn.get 3 = some fi ∧ fi.body.isSome = true := ⟨_, rfl, by kernel_rfl⟩
  exact runP (tb := tab2) ((tabkOk (nuL (nu2 t id c more cut)) (one2 t id c more cut)).hyps (hyOk2 t id c more cut b0 b1 b2 b3 b4 b5 b6 b7 h0 h1 h2 h13 h14)) rfl hfi hb (run2 ) (args := [.int .u8 t, .int .u16 id, St' c, .bool false, St' more, .int .u16 cut]) (by simp only [RelL, Rel]; exact ⟨_, _, rfl, rfl, ⟨_, _, rfl, rfl, ⟨_, _, rfl, rfl, ⟨_, _, rfl, rfl, ⟨_, _, rfl, rfl, ⟨_, _, rfl, rfl, rfl⟩⟩⟩⟩⟩⟩) w hl
def hy3 : List (HK × AV) := [(.len (.x 2), .x 5),
  (.bin .gtr (.x 5) (.i .i64 (.ofNat 2000)), .b false),
  (.len (.x 3), .x 6),
  (.bin .gtr (.x 6) (.i .i64 (.ofNat 200)), .b false),
  (.bin .eql (.x 0) (.i .u8 (.ofNat 0)), .b false),
  (.conv 3 (.x 0), .x 7),
  (.conv 3 (.x 1), .x 8),
  (.mm true (.x 5) (.i .i64 (.ofNat 0)), .x 9),
  (.un .neg (.x 9), .x 10),
  (.bin .and (.x 10) (.i .i64 (.ofNat 7)), .i .i64 (.ofNat 7)),
  (.bin .geq (.x 7) (.i .i64 (.ofNat 1)), .b true),
  (.bin .leq (.x 7) (.i .i64 (.ofNat 255)), .b true),
  (.bin .geq (.x 8) (.i .i64 (.ofNat 0)), .b true),
  (.bin .leq (.x 8) (.i .i64 (.ofNat 65535)), .b true),
  (.bin .leq (.x 5) (.i .i64 (.ofNat 65535)), .b true),
  (.conv 5 (.x 7), .x 11),
  (.bin .shr (.x 8) (.i .u64 (.ofNat 8)), .x 12),
  (.conv 5 (.x 12), .x 13),
  (.conv 5 (.x 8), .x 14),
  (.bin .shr (.x 5) (.i .u64 (.ofNat 8)), .x 15),
  (.conv 5 (.x 15), .x 16),
  (.conv 5 (.x 5), .x 17),
  (.bytes [.i .u8 (.ofNat 1), .x 11, .x 13, .x 14, .x 16, .x 17, .i .u8 (.ofNat 7), .i .u8 (.ofNat 0)], .x 18),
  (.bin .add (.x 18) (.x 2), .x 19),
  (.bin .add (.x 19) (.s 7 0), .x 20),
  (.len (.x 20), .x 21),
  (.bin .lss (.x 21) (.i .i64 (.ofNat 8)), .b false),
  (.bin .rem (.x 21) (.i .i64 (.ofNat 8)), .x 22),
  (.bin .neq (.x 22) (.i .i64 (.ofNat 0)), .b false),
  (.bin .add (.x 20) (.x 3), .x 23),
  (.bin .neq (.x 23) (.s 0 0), .b true),
  (.idx (.x 23) (.i .i64 (.ofNat 0)), .i .u8 (.ofNat 1)),
  (.len (.x 23), .x 24),
  (.bin .lss (.x 24) (.i .i64 (.ofNat 8)), .b false),
  (.idx (.x 23) (.i .i64 (.ofNat 4)), .x 25),
  (.conv 3 (.x 25), .x 26),
  (.bin .shl (.x 26) (.i .u64 (.ofNat 8)), .x 27),
  (.bin .add (.i .i64 (.ofNat 8)) (.x 27), .x 28),
  (.idx (.x 23) (.i .i64 (.ofNat 5)), .x 29),
  (.conv 3 (.x 29), .x 30),
  (.bin .add (.x 28) (.x 30), .x 31),
  (.idx (.x 23) (.i .i64 (.ofNat 6)), .i .u8 (.ofNat 7)),
  (.bin .add (.x 31) (.i .i64 (.ofNat 7)), .x 32),
  (.bin .lss (.x 24) (.x 32), .b false),
  (.idx (.x 23) (.i .i64 (.ofNat 1)), .x 33),
  (.bin .eql (.x 33) (.i .u8 (.ofNat 0)), .b false),
  (.conv 3 (.x 33), .x 34),
  (.idx (.x 23) (.i .i64 (.ofNat 2)), .x 35),
  (.conv 3 (.x 35), .x 36),
  (.bin .shl (.x 36) (.i .u64 (.ofNat 8)), .x 37),
  (.idx (.x 23) (.i .i64 (.ofNat 3)), .x 38),
  (.conv 3 (.x 38), .x 39),
  (.bin .or (.x 37) (.x 39), .x 40),
  (.bin .sub (.x 32) (.i .i64 (.ofNat 7)), .x 41),
  (.sub (.x 23) (some (.i .i64 (.ofNat 8))) (some (.x 41)), .x 42),
  (.sub (.x 23) (some (.x 32)) none, .x 43),
  (.conv 3 (.x 4), .x 44),
  (.bin .rem (.x 44) (.x 21), .x 45),
  (.sub (.x 20) none (some (.x 45)), .x 46),
  (.bin .neq (.x 46) (.s 0 0), .b false),
  (.len (.x 46), .x 47),
  (.bin .lss (.x 47) (.i .i64 (.ofNat 8)), .b true),
  (.eq 3 (.x 34) (.x 7), .b true),
  (.eq 3 (.x 40) (.x 8), .b true),
  (.eq 9 (.x 42) (.x 2), .b true),
  (.bin .eql (.x 43) (.x 3), .b true)]
noncomputable def tab3 : Tab := { tabk with hyp := hy3 }
theorem run3 : okB (call tab3 9000 3 [.x 0, .x 1, .x 2, .b true, .x 3, .x 4] ⟨H0 , 1, 0, 0⟩) = true := by kernel_rfl
def nu3 (t : Int) (id : Int) (c : List UInt8) (more : List UInt8) (cut : Int) : List Value := [.int .u8 (t),
  .int .u16 (id),
  St' c,
  St' more,
  .int .u16 (cut),
  .int .i64 ((c.length : Int)),
  .int .i64 ((more.length : Int)),
  .int .i64 (t),
  .int .i64 (id),
  .int .i64 (max ((c.length : Int)) 0),
  .int .i64 (-(max ((c.length : Int)) 0)),
  .int .u8 (t),
  .int .i64 (id / 256),
  .int .u8 (id / 256),
  .int .u8 (id % 256),
  .int .i64 (((c.length : Int)) / 256),
  .int .u8 ((((c.length : Int)) / 256) % 256),
  .int .u8 (((c.length : Int)) % 256),
  St' ([u8 1, u8 (t), u8 (id / 256), u8 (id % 256), u8 ((((c.length : Int)) / 256) % 256), u8 (((c.length : Int)) % 256), u8 7, u8 0]),
  St' (([u8 1, u8 (t), u8 (id / 256), u8 (id % 256), u8 ((((c.length : Int)) / 256) % 256), u8 (((c.length : Int)) % 256), u8 7, u8 0] ++ c)),
  St' (([u8 1, u8 (t), u8 (id / 256), u8 (id % 256), u8 ((((c.length : Int)) / 256) % 256), u8 (((c.length : Int)) % 256), u8 7, u8 0] ++ (c ++ [u8 0, u8 0, u8 0, u8 0, u8 0, u8 0, u8 0]))),
  .int .i64 ((c.length : Int) + 15),
  .int .i64 (((c.length : Int) + 15) % 8),
  St' (([u8 1, u8 (t), u8 (id / 256), u8 (id % 256), u8 ((((c.length : Int)) / 256) % 256), u8 (((c.length : Int)) % 256), u8 7, u8 0] ++ (c ++ ([u8 0, u8 0, u8 0, u8 0, u8 0, u8 0, u8 0] ++ more)))),
  .int .i64 ((c.length : Int) + (more.length : Int) + 15),
  .int .u8 ((((c.length : Int)) / 256) % 256),
  .int .i64 ((((c.length : Int)) / 256) % 256),
  .int .i64 (((((c.length : Int)) / 256) % 256) * 256),
  .int .i64 (8 + (((((c.length : Int)) / 256) % 256) * 256)),
  .int .u8 (((c.length : Int)) % 256),
  .int .i64 (((c.length : Int)) % 256),
  .int .i64 ((8 + (((((c.length : Int)) / 256) % 256) * 256)) + (((c.length : Int)) % 256)),
  .int .i64 (((8 + (((((c.length : Int)) / 256) % 256) * 256)) + (((c.length : Int)) % 256)) + 7),
  .int .u8 (t),
  .int .i64 (t),
  .int .u8 (id / 256),
  .int .i64 (id / 256),
  .int .i64 ((id / 256) * 256),
  .int .u8 (id % 256),
  .int .i64 (id % 256),
  .int .i64 (((id / 256) * 256) + (id % 256)),
  .int .i64 ((((8 + (((((c.length : Int)) / 256) % 256) * 256)) + (((c.length : Int)) % 256)) + 7) - 7),
  St' c,
  St' more,
  .int .i64 (cut),
  .int .i64 (cut % ((c.length : Int) + 15)),
  St' ((List.take (cut % ((c.length : Int) + 15)).toNat (([u8 1, u8 (t), u8 (id / 256), u8 (id % 256), u8 ((((c.length : Int)) / 256) % 256), u8 (((c.length : Int)) % 256), u8 7, u8 0] ++ (c ++ [u8 0, u8 0, u8 0, u8 0, u8 0, u8 0, u8 0]))))),
  .int .i64 ((cut % ((c.length : Int) + 15)))]
theorem one3 (t : Int) (id : Int) (c : List UInt8) (more : List UInt8) (cut : Int) : ∀ j, (nuL (nu3 t id c more cut) j).oneCell' = true := nuL_one (l := nu3 t id c more cut) rfl
set_option maxHeartbeats 2000000 in
theorem hyOk3 (t : Int) (id : Int) (c : List UInt8) (more : List UInt8) (cut : Int) (b0 : 0 ≤ t) (b1 : t ≤ 255) (b2 : 0 ≤ id) (b3 : id ≤ 65535) (b4 : c.length ≤ 9223372036854775807) (b5 : more.length ≤ 9223372036854775807) (b6 : 0 ≤ cut) (b7 : cut ≤ 65535) (h0 : ¬ (2000 < (c.length : Int))) (h1 : ¬ (200 < (more.length : Int))) (h2 : ¬ (t = 0)) (h3 : ¬ ((-(max ((c.length : Int)) 0)) % 8 = 0)) (h4 : ¬ ((-(max ((c.length : Int)) 0)) % 8 = 1)) (h5 : ¬ ((-(max ((c.length : Int)) 0)) % 8 = 2)) (h6 : ¬ ((-(max ((c.length : Int)) 0)) % 8 = 3)) (h7 : ¬ ((-(max ((c.length : Int)) 0)) % 8 = 4)) (h8 : ¬ ((-(max ((c.length : Int)) 0)) % 8 = 5)) (h9 : ¬ ((-(max ((c.length : Int)) 0)) % 8 = 6)) (h21 : (cut % ((c.length : Int) + 15)) = 0) : ∀ k r, (k, r) ∈ hy3 → HOk (cx (nuL (nu3 t id c more cut)) (one3 t id c more cut) 0 laidE laidE_stab) k r := by
  have := Int.emod_nonneg cut (show ((c.length : Int) + 15) ≠ 0 by omega); have := Int.emod_lt_of_pos cut (show 0 < ((c.length : Int) + 15) by omega)
  unfold hy3
  refine hcons (kLenE (isX rfl) (denX rfl) (by first | omega | (simp only [List.length_append, List.length_cons, List.length_nil, List.length_take, List.length_drop, Int.natCast_add] at *; omega))) ?_
  refine hcons (kGt (isX rfl) (isZ (m := 2000) rfl) (decide_eq_false (by omega))) ?_
  refine hcons (kLenE (isX rfl) (denX rfl) (by first | omega | (simp only [List.length_append, List.length_cons, List.length_nil, List.length_take, List.length_drop, Int.natCast_add] at *; omega))) ?_
  refine hcons (kGt (isX rfl) (isZ (m := 200) rfl) (decide_eq_false (by omega))) ?_
  refine hcons (kEqI (isX rfl) (isZ (m := 0) rfl) (decide_eq_false (by omega))) ?_
  refine hcons (kConvF (isX rfl) tu3 (denX rfl) (fI64 (by omega) (by omega))) ?_
  refine hcons (kConvF (isX rfl) tu3 (denX rfl) (fI64 (by omega) (by omega))) ?_
  refine hcons (kMax (isX rfl) (isZ (m := 0) rfl) (denX rfl) rfl) ?_
  refine hcons (kNeg (isX rfl) (denX rfl) rfl (fI64 (by omega) (by omega))) ?_
  refine hcons (kAndG 3 8 rfl (by decide) (isX rfl) (isZ (m := 7) rfl) (denZ (m := 7) rfl) (fI64 (by omega) (by omega)) rfl (by omega) (fI64 (by omega) (by omega))) ?_
  refine hcons (kGe (isX rfl) (isZ (m := 1) rfl) (decide_eq_true (by omega))) ?_
  refine hcons (kLe (isX rfl) (isZ (m := 255) rfl) (decide_eq_true (by omega))) ?_
  refine hcons (kGe (isX rfl) (isZ (m := 0) rfl) (decide_eq_true (by omega))) ?_
  refine hcons (kLe (isX rfl) (isZ (m := 65535) rfl) (decide_eq_true (by omega))) ?_
  refine hcons (kLe (isX rfl) (isZ (m := 65535) rfl) (decide_eq_true (by omega))) ?_
  refine hcons (kConvF (isX rfl) tu5 (denX rfl) (fU8 (by omega) (by omega))) ?_
  refine hcons (kShrM 8 256 rfl (isX rfl) (isZ (m := 8) rfl) (denX rfl) rfl (by decide) (by omega) rfl) ?_
  refine hcons (kConvF (isX rfl) tu5 (denX rfl) (fU8 (by omega) (by omega))) ?_
  refine hcons (kConv8 (isX rfl) tu5 (denX rfl) rfl) ?_
  refine hcons (kShrM 8 256 rfl (isX rfl) (isZ (m := 8) rfl) (denX rfl) rfl (by decide) (by omega) rfl) ?_
  refine hcons (kConv8 (isX rfl) tu5 (denX rfl) rfl) ?_
  refine hcons (kConv8 (isX rfl) tu5 (denX rfl) rfl) ?_
  refine hcons (kBytesB (bs := [u8 1, u8 (t), u8 (id / 256), u8 (id % 256), u8 ((((c.length : Int)) / 256) % 256), u8 (((c.length : Int)) % 256), u8 7, u8 0]) (.cons (isB8 (isZ (m := 1) rfl) (by omega) (by omega)) (.cons (isB8 (isX rfl) (by omega) (by omega)) (.cons (isB8 (isX rfl) (by omega) (by omega)) (.cons (isB8 (isX rfl) (by omega) (by omega)) (.cons (isB8 (isX rfl) (by omega) (by omega)) (.cons (isB8 (isX rfl) (by omega) (by omega)) (.cons (isB8 (isZ (m := 7) rfl) (by omega) (by omega)) (.cons (isB8 (isZ (m := 0) rfl) (by omega) (by omega)) .nil)))))))) (denX rfl)) ?_
  refine hcons (kCat (isX rfl) (isX rfl) (denX rfl) (by first | rfl | (simp only [List.append_assoc, List.cons_append, List.nil_append, List.append_nil]; done)) (by first | omega | (simp only [List.length_append, List.length_cons, List.length_nil, List.length_take, List.length_drop, Int.natCast_add] at *; omega))) ?_
  refine hcons (kCat (isX rfl) (isSx (l := [u8 0, u8 0, u8 0, u8 0, u8 0, u8 0, u8 0]) 7 0 rfl) (denX rfl) (by first | rfl | (simp only [List.append_assoc, List.cons_append, List.nil_append, List.append_nil]; done)) (by first | omega | (simp only [List.length_append, List.length_cons, List.length_nil, List.length_take, List.length_drop, Int.natCast_add] at *; omega))) ?_
  refine hcons (kLenE (isX rfl) (denX rfl) (by first | omega | (simp only [List.length_append, List.length_cons, List.length_nil, List.length_take, List.length_drop, Int.natCast_add] at *; omega))) ?_
  refine hcons (kLt (isX rfl) (isZ (m := 8) rfl) (decide_eq_false (by omega))) ?_
  refine hcons (kRem (isX rfl) (isZ (m := 8) rfl) (denX rfl) (by omega) (by omega) rfl) ?_
  refine hcons (kNeI (isX rfl) (isZ (m := 0) rfl) (neF (by omega))) ?_
  refine hcons (kCat (isX rfl) (isX rfl) (denX rfl) (by first | rfl | (simp only [List.append_assoc, List.cons_append, List.nil_append, List.append_nil]; done)) (by first | omega | (simp only [List.length_append, List.length_cons, List.length_nil, List.length_take, List.length_drop, Int.natCast_add] at *; omega))) ?_
  refine hcons (kNeS (isX rfl) (isSx (l := ([] : List UInt8)) 0 0 rfl) (bnT (by first | exact nilT (by first | omega | (simp only [List.length_append, List.length_cons, List.length_nil, List.length_take, List.length_drop, Int.natCast_add] at *; omega)) | exact nilF (by first | omega | (simp only [List.length_append, List.length_cons, List.length_nil, List.length_take, List.length_drop, Int.natCast_add] at *; omega)) | exact nilT' (by first | omega | (simp only [List.length_append, List.length_cons, List.length_nil, List.length_take, List.length_drop, Int.natCast_add] at *; omega)) | exact nilF' (by first | omega | (simp only [List.length_append, List.length_cons, List.length_nil, List.length_take, List.length_drop, Int.natCast_add] at *; omega))))) ?_
  refine hcons (kIdxE (i := 0) (isX rfl) (isZ (m := 0) rfl) (denZ (m := 1) rfl) rfl (by first | omega | (simp only [List.length_append, List.length_cons, List.length_nil, List.length_take, List.length_drop, Int.natCast_add] at *; omega)) (bt_at rfl (by omega) (by omega))) ?_
  refine hcons (kLenE (isX rfl) (denX rfl) (by first | omega | (simp only [List.length_append, List.length_cons, List.length_nil, List.length_take, List.length_drop, Int.natCast_add] at *; omega))) ?_
  refine hcons (kLt (isX rfl) (isZ (m := 8) rfl) (decide_eq_false (by omega))) ?_
  refine hcons (kIdxE (i := 4) (isX rfl) (isZ (m := 4) rfl) (denX rfl) rfl (by first | omega | (simp only [List.length_append, List.length_cons, List.length_nil, List.length_take, List.length_drop, Int.natCast_add] at *; omega)) (bt_at rfl (by omega) (by omega))) ?_
  refine hcons (kConvF (isX rfl) tu3 (denX rfl) (fI64 (by omega) (by omega))) ?_
  refine hcons (kShlM 8 256 rfl (isX rfl) (isZ (m := 8) rfl) (denX rfl) rfl (by decide) rfl (fI64 (by omega) (by omega))) ?_
  refine hcons (kAdd (isZ (m := 8) rfl) (isX rfl) (denX rfl) rfl (fI64 (by omega) (by omega))) ?_
  refine hcons (kIdxE (i := 5) (isX rfl) (isZ (m := 5) rfl) (denX rfl) rfl (by first | omega | (simp only [List.length_append, List.length_cons, List.length_nil, List.length_take, List.length_drop, Int.natCast_add] at *; omega)) (bt_at rfl (by omega) (by omega))) ?_
  refine hcons (kConvF (isX rfl) tu3 (denX rfl) (fI64 (by omega) (by omega))) ?_
  refine hcons (kAdd (isX rfl) (isX rfl) (denX rfl) rfl (fI64 (by omega) (by omega))) ?_
  refine hcons (kIdxE (i := 6) (isX rfl) (isZ (m := 6) rfl) (denZ (m := 7) rfl) rfl (by first | omega | (simp only [List.length_append, List.length_cons, List.length_nil, List.length_take, List.length_drop, Int.natCast_add] at *; omega)) (bt_at rfl (by omega) (by omega))) ?_
  refine hcons (kAdd (isX rfl) (isZ (m := 7) rfl) (denX rfl) rfl (fI64 (by omega) (by omega))) ?_
  refine hcons (kLt (isX rfl) (isX rfl) (decide_eq_false (by omega))) ?_
  refine hcons (kIdxE (i := 1) (isX rfl) (isZ (m := 1) rfl) (denX rfl) rfl (by first | omega | (simp only [List.length_append, List.length_cons, List.length_nil, List.length_take, List.length_drop, Int.natCast_add] at *; omega)) (bt_at rfl (by omega) (by omega))) ?_
  refine hcons (kEqI (isX rfl) (isZ (m := 0) rfl) (decide_eq_false (by omega))) ?_
  refine hcons (kConvF (isX rfl) tu3 (denX rfl) (fI64 (by omega) (by omega))) ?_
  refine hcons (kIdxE (i := 2) (isX rfl) (isZ (m := 2) rfl) (denX rfl) rfl (by first | omega | (simp only [List.length_append, List.length_cons, List.length_nil, List.length_take, List.length_drop, Int.natCast_add] at *; omega)) (bt_at rfl (by omega) (by omega))) ?_
  refine hcons (kConvF (isX rfl) tu3 (denX rfl) (fI64 (by omega) (by omega))) ?_
  refine hcons (kShlM 8 256 rfl (isX rfl) (isZ (m := 8) rfl) (denX rfl) rfl (by decide) rfl (fI64 (by omega) (by omega))) ?_
  refine hcons (kIdxE (i := 3) (isX rfl) (isZ (m := 3) rfl) (denX rfl) rfl (by first | omega | (simp only [List.length_append, List.length_cons, List.length_nil, List.length_take, List.length_drop, Int.natCast_add] at *; omega)) (bt_at rfl (by omega) (by omega))) ?_
  refine hcons (kConvF (isX rfl) tu3 (denX rfl) (fI64 (by omega) (by omega))) ?_
  refine hcons (kOrM 8 256 rfl (isX rfl) (isX rfl) (denX rfl) (by omega) (by omega) (fI64 (by omega) (by omega)) (fI64 (by omega) (by omega)) (by omega) (by omega) rfl (fI64 (by omega) (by omega))) ?_
  refine hcons (kSub (isX rfl) (isZ (m := 7) rfl) (denX rfl) rfl (fI64 (by omega) (by omega))) ?_
  refine hcons (kCut (isX rfl) (.inr ⟨_, _, rfl, (isZ (m := 8) rfl)⟩) (.inr ⟨_, _, rfl, (isX rfl)⟩) (p := [u8 1, u8 (t), u8 (id / 256), u8 (id % 256), u8 ((((c.length : Int)) / 256) % 256), u8 (((c.length : Int)) % 256), u8 7, u8 0]) (m := c) (q := ([u8 0, u8 0, u8 0, u8 0, u8 0, u8 0, u8 0] ++ more)) (by first | rfl | (simp only [List.append_assoc, List.cons_append, List.nil_append, List.append_nil]; done)) (by first | omega | (simp only [List.length_append, List.length_cons, List.length_nil, List.length_take, List.length_drop, Int.natCast_add] at *; omega)) (by first | omega | (simp only [List.length_append, List.length_cons, List.length_nil, List.length_take, List.length_drop, Int.natCast_add] at *; omega)) (denX rfl)) ?_
  refine hcons (kCut (isX rfl) (.inr ⟨_, _, rfl, (isX rfl)⟩) (.inl ⟨rfl, rfl⟩) (p := ([u8 1, u8 (t), u8 (id / 256), u8 (id % 256), u8 ((((c.length : Int)) / 256) % 256), u8 (((c.length : Int)) % 256), u8 7, u8 0] ++ (c ++ [u8 0, u8 0, u8 0, u8 0, u8 0, u8 0, u8 0]))) (m := more) (q := ([] : List UInt8)) (by first | rfl | (simp only [List.append_assoc, List.cons_append, List.nil_append, List.append_nil]; done)) (by first | omega | (simp only [List.length_append, List.length_cons, List.length_nil, List.length_take, List.length_drop, Int.natCast_add] at *; omega)) (by first | omega | (simp only [List.length_append, List.length_cons, List.length_nil, List.length_take, List.length_drop, Int.natCast_add] at *; omega)) (denX rfl)) ?_
  refine hcons (kConvF (isX rfl) tu3 (denX rfl) (fI64 (by omega) (by omega))) ?_
  refine hcons (kRem (isX rfl) (isX rfl) (denX rfl) (by omega) (by omega) rfl) ?_
  refine hcons (kTake (isX rfl) (isX rfl) (by first | omega | (simp only [List.length_append, List.length_cons, List.length_nil, List.length_take, List.length_drop, Int.natCast_add] at *; omega)) (by first | omega | (simp only [List.length_append, List.length_cons, List.length_nil, List.length_take, List.length_drop, Int.natCast_add] at *; omega)) (denX rfl)) ?_
  refine hcons (kNeS (isX rfl) (isSx (l := ([] : List UInt8)) 0 0 rfl) (bnF (by first | exact nilT (by first | omega | (simp only [List.length_append, List.length_cons, List.length_nil, List.length_take, List.length_drop, Int.natCast_add] at *; omega)) | exact nilF (by first | omega | (simp only [List.length_append, List.length_cons, List.length_nil, List.length_take, List.length_drop, Int.natCast_add] at *; omega)) | exact nilT' (by first | omega | (simp only [List.length_append, List.length_cons, List.length_nil, List.length_take, List.length_drop, Int.natCast_add] at *; omega)) | exact nilF' (by first | omega | (simp only [List.length_append, List.length_cons, List.length_nil, List.length_take, List.length_drop, Int.natCast_add] at *; omega))))) ?_
  refine hcons (kLenE (isX rfl) (denX rfl) (by first | omega | (simp only [List.length_append, List.length_cons, List.length_nil, List.length_take, List.length_drop, Int.natCast_add] at *; omega))) ?_
  refine hcons (kLt (isX rfl) (isZ (m := 8) rfl) (decide_eq_true (by omega))) ?_
  refine hcons (kEqT (isX rfl) (isX rfl) tu3 (decide_eq_true (by omega))) ?_
  refine hcons (kEqT (isX rfl) (isX rfl) tu3 (decide_eq_true (by omega))) ?_
  refine hcons (kEqTS (isX rfl) (isX rfl) tu9 (decide_eq_true rfl)) ?_
  refine hcons (kEqS (isX rfl) (isX rfl) (decide_eq_true rfl)) ?_
  exact hnil
theorem path3 (t : Int) (id : Int) (c : List UInt8) (more : List UInt8) (cut : Int) (b0 : 0 ≤ t) (b1 : t ≤ 255) (b2 : 0 ≤ id) (b3 : id ≤ 65535) (b4 : c.length ≤ 9223372036854775807) (b5 : more.length ≤ 9223372036854775807) (b6 : 0 ≤ cut) (b7 : cut ≤ 65535) (h0 : ¬ (2000 < (c.length : Int))) (h1 : ¬ (200 < (more.length : Int))) (h2 : ¬ (t = 0)) (h3 : ¬ ((-(max ((c.length : Int)) 0)) % 8 = 0)) (h4 : ¬ ((-(max ((c.length : Int)) 0)) % 8 = 1)) (h5 : ¬ ((-(max ((c.length : Int)) 0)) % 8 = 2)) (h6 : ¬ ((-(max ((c.length : Int)) 0)) % 8 = 3)) (h7 : ¬ ((-(max ((c.length : Int)) 0)) % 8 = 4)) (h8 : ¬ ((-(max ((c.length : Int)) 0)) % 8 = 5)) (h9 : ¬ ((-(max ((c.length : Int)) 0)) % 8 = 6)) (h21 : (cut % ((c.length : Int) + 15)) = 0) (w : World) (hl : laidE w) : Calls Try.prog 3 #[.int .u8 t, .int .u16 id, St' c, .bool true, St' more, .int .u16 cut] w fun e w' => e = .returned (.bool true) ∧ Go.AX.Below w.heap.size w w' := by
  obtain ⟨fi, hfi, hb⟩ : ∃ fi, tabk.fn.get 3 = some fi ∧ fi.body.isSome = true := ⟨_, rfl, by kernel_rfl⟩
  exact runP (tb := tab3) ((tabkOk (nuL (nu3 t id c more cut)) (one3 t id c more cut)).hyps (hyOk3 t id c more cut b0 b1 b2 b3 b4 b5 b6 b7 h0 h1 h2 h3 h4 h5 h6 h7 h8 h9 h21)) rfl hfi hb (run3 ) (args := [.int .u8 t, .int .u16 id, St' c, .bool true, St' more, .int .u16 cut]) (by simp only [RelL, Rel]; exact ⟨_, _, rfl, rfl, ⟨_, _, rfl, rfl, ⟨_, _, rfl, rfl, ⟨_, _, rfl, rfl, ⟨_, _, rfl, rfl, ⟨_, _, rfl, rfl, rfl⟩⟩⟩⟩⟩⟩) w hl
def hy4 : List (HK × AV) := [(.len (.x 2), .x 5),
  (.bin .gtr (.x 5) (.i .i64 (.ofNat 2000)), .b false),
  (.len (.x 3), .x 6),
  (.bin .gtr (.x 6) (.i .i64 (.ofNat 200)), .b false),
  (.bin .eql (.x 0) (.i .u8 (.ofNat 0)), .b false),
  (.conv 3 (.x 0), .x 7),
  (.conv 3 (.x 1), .x 8),
  (.mm true (.x 5) (.i .i64 (.ofNat 0)), .x 9),
  (.un .neg (.x 9), .x 10),
  (.bin .and (.x 10) (.i .i64 (.ofNat 7)), .i .i64 (.ofNat 7)),
  (.bin .geq (.x 7) (.i .i64 (.ofNat 1)), .b true),
  (.bin .leq (.x 7) (.i .i64 (.ofNat 255)), .b true),
  (.bin .geq (.x 8) (.i .i64 (.ofNat 0)), .b true),
  (.bin .leq (.x 8) (.i .i64 (.ofNat 65535)), .b true),
  (.bin .leq (.x 5) (.i .i64 (.ofNat 65535)), .b true),
  (.conv 5 (.x 7), .x 11),
  (.bin .shr (.x 8) (.i .u64 (.ofNat 8)), .x 12),
  (.conv 5 (.x 12), .x 13),
  (.conv 5 (.x 8), .x 14),
  (.bin .shr (.x 5) (.i .u64 (.ofNat 8)), .x 15),
  (.conv 5 (.x 15), .x 16),
  (.conv 5 (.x 5), .x 17),
  (.bytes [.i .u8 (.ofNat 1), .x 11, .x 13, .x 14, .x 16, .x 17, .i .u8 (.ofNat 7), .i .u8 (.ofNat 0)], .x 18),
  (.bin .add (.x 18) (.x 2), .x 19),
  (.bin .add (.x 19) (.s 7 0), .x 20),
  (.len (.x 20), .x 21),
  (.bin .lss (.x 21) (.i .i64 (.ofNat 8)), .b false),
  (.bin .rem (.x 21) (.i .i64 (.ofNat 8)), .x 22),
  (.bin .neq (.x 22) (.i .i64 (.ofNat 0)), .b false),
  (.bin .add (.x 20) (.x 3), .x 23),
  (.bin .neq (.x 23) (.s 0 0), .b true),
  (.idx (.x 23) (.i .i64 (.ofNat 0)), .i .u8 (.ofNat 1)),
  (.len (.x 23), .x 24),
  (.bin .lss (.x 24) (.i .i64 (.ofNat 8)), .b false),
  (.idx (.x 23) (.i .i64 (.ofNat 4)), .x 25),
  (.conv 3 (.x 25), .x 26),
  (.bin .shl (.x 26) (.i .u64 (.ofNat 8)), .x 27),
  (.bin .add (.i .i64 (.ofNat 8)) (.x 27), .x 28),
  (.idx (.x 23) (.i .i64 (.ofNat 5)), .x 29),
  (.conv 3 (.x 29), .x 30),
  (.bin .add (.x 28) (.x 30), .x 31),
  (.idx (.x 23) (.i .i64 (.ofNat 6)), .i .u8 (.ofNat 7)),
  (.bin .add (.x 31) (.i .i64 (.ofNat 7)), .x 32),
  (.bin .lss (.x 24) (.x 32), .b false),
  (.idx (.x 23) (.i .i64 (.ofNat 1)), .x 33),
  (.bin .eql (.x 33) (.i .u8 (.ofNat 0)), .b false),
  (.conv 3 (.x 33), .x 34),
  (.idx (.x 23) (.i .i64 (.ofNat 2)), .x 35),
  (.conv 3 (.x 35), .x 36),
  (.bin .shl (.x 36) (.i .u64 (.ofNat 8)), .x 37),
  (.idx (.x 23) (.i .i64 (.ofNat 3)), .x 38),
  (.conv 3 (.x 38), .x 39),
  (.bin .or (.x 37) (.x 39), .x 40),
  (.bin .sub (.x 32) (.i .i64 (.ofNat 7)), .x 41),
  (.sub (.x 23) (some (.i .i64 (.ofNat 8))) (some (.x 41)), .x 42),
  (.sub (.x 23) (some (.x 32)) none, .x 43),
  (.conv 3 (.x 4), .x 44),
  (.bin .rem (.x 44) (.x 21), .x 45),
  (.sub (.x 20) none (some (.x 45)), .x 46),
  (.bin .neq (.x 46) (.s 0 0), .b true),
  (.idx (.x 46) (.i .i64 (.ofNat 0)), .i .u8 (.ofNat 1)),
  (.len (.x 46), .x 47),
  (.bin .lss (.x 47) (.i .i64 (.ofNat 8)), .b true),
  (.eq 3 (.x 34) (.x 7), .b true),
  (.eq 3 (.x 40) (.x 8), .b true),
  (.eq 9 (.x 42) (.x 2), .b true),
  (.bin .eql (.x 43) (.x 3), .b true)]
noncomputable def tab4 : Tab := { tabk with hyp := hy4 }
theorem run4 : okB (call tab4 9000 3 [.x 0, .x 1, .x 2, .b true, .x 3, .x 4] ⟨H0 , 1, 0, 0⟩) = true := by kernel_rfl
def nu4 (t : Int) (id : Int) (c : List UInt8) (more : List UInt8) (cut : Int) : List Value := [.int .u8 (t),
  .int .u16 (id),
  St' c,
  St' more,
  .int .u16 (cut),
  .int .i64 ((c.length : Int)),
  .int .i64 ((more.length : Int)),
  .int .i64 (t),
  .int .i64 (id),
  .int .i64 (max ((c.length : Int)) 0),
  .int .i64 (-(max ((c.length : Int)) 0)),
  .int .u8 (t),
  .int .i64 (id / 256),
  .int .u8 (id / 256),
  .int .u8 (id % 256),
  .int .i64 (((c.length : Int)) / 256),
  .int .u8 ((((c.length : Int)) / 256) % 256),
  .int .u8 (((c.length : Int)) % 256),
  St' ([u8 1, u8 (t), u8 (id / 256), u8 (id % 256), u8 ((((c.length : Int)) / 256) % 256), u8 (((c.length : Int)) % 256), u8 7, u8 0]),
  St' (([u8 1, u8 (t), u8 (id / 256), u8 (id % 256), u8 ((((c.length : Int)) / 256) % 256), u8 (((c.length : Int)) % 256), u8 7, u8 0] ++ c)),
  St' (([u8 1, u8 (t), u8 (id / 256), u8 (id % 256), u8 ((((c.length : Int)) / 256) % 256), u8 (((c.length : Int)) % 256), u8 7, u8 0] ++ (c ++ [u8 0, u8 0, u8 0, u8 0, u8 0, u8 0, u8 0]))),
  .int .i64 ((c.length : Int) + 15),
  .int .i64 (((c.length : Int) + 15) % 8),
  St' (([u8 1, u8 (t), u8 (id / 256), u8 (id % 256), u8 ((((c.length : Int)) / 256) % 256), u8 (((c.length : Int)) % 256), u8 7, u8 0] ++ (c ++ ([u8 0, u8 0, u8 0, u8 0, u8 0, u8 0, u8 0] ++ more)))),
  .int .i64 ((c.length : Int) + (more.length : Int) + 15),
  .int .u8 ((((c.length : Int)) / 256) % 256),
  .int .i64 ((((c.length : Int)) / 256) % 256),
  .int .i64 (((((c.length : Int)) / 256) % 256) * 256),
  .int .i64 (8 + (((((c.length : Int)) / 256) % 256) * 256)),
  .int .u8 (((c.length : Int)) % 256),
  .int .i64 (((c.length : Int)) % 256),
  .int .i64 ((8 + (((((c.length : Int)) / 256) % 256) * 256)) + (((c.length : Int)) % 256)),
  .int .i64 (((8 + (((((c.length : Int)) / 256) % 256) * 256)) + (((c.length : Int)) % 256)) + 7),
  .int .u8 (t),
  .int .i64 (t),
  .int .u8 (id / 256),
  .int .i64 (id / 256),
  .int .i64 ((id / 256) * 256),
  .int .u8 (id % 256),
  .int .i64 (id % 256),
  .int .i64 (((id / 256) * 256) + (id % 256)),
  .int .i64 ((((8 + (((((c.length : Int)) / 256) % 256) * 256)) + (((c.length : Int)) % 256)) + 7) - 7),
  St' c,
  St' more,
  .int .i64 (cut),
  .int .i64 (cut % ((c.length : Int) + 15)),
  St' ((List.take (cut % ((c.length : Int) + 15)).toNat (([u8 1, u8 (t), u8 (id / 256), u8 (id % 256), u8 ((((c.length : Int)) / 256) % 256), u8 (((c.length : Int)) % 256), u8 7, u8 0] ++ (c ++ [u8 0, u8 0, u8 0, u8 0, u8 0, u8 0, u8 0]))))),
  .int .i64 ((cut % ((c.length : Int) + 15)))]
theorem one4 (t : Int) (id : Int) (c : List UInt8) (more : List UInt8) (cut : Int) : ∀ j, (nuL (nu4 t id c more cut) j).oneCell' = true := nuL_one (l := nu4 t id c more cut) rfl
set_option maxHeartbeats 2000000 in
theorem hyOk4 (t : Int) (id : Int) (c : List UInt8) (more : List UInt8) (cut : Int) (b0 : 0 ≤ t) (b1 : t ≤ 255) (b2 : 0 ≤ id) (b3 : id ≤ 65535) (b4 : c.length ≤ 9223372036854775807) (b5 : more.length ≤ 9223372036854775807) (b6 : 0 ≤ cut) (b7 : cut ≤ 65535) (h0 : ¬ (2000 < (c.length : Int))) (h1 : ¬ (200 < (more.length : Int))) (h2 : ¬ (t = 0)) (h3 : ¬ ((-(max ((c.length : Int)) 0)) % 8 = 0)) (h4 : ¬ ((-(max ((c.length : Int)) 0)) % 8 = 1)) (h5 : ¬ ((-(max ((c.length : Int)) 0)) % 8 = 2)) (h6 : ¬ ((-(max ((c.length : Int)) 0)) % 8 = 3)) (h7 : ¬ ((-(max ((c.length : Int)) 0)) % 8 = 4)) (h8 : ¬ ((-(max ((c.length : Int)) 0)) % 8 = 5)) (h9 : ¬ ((-(max ((c.length : Int)) 0)) % 8 = 6)) (h21 : ¬ ((cut % ((c.length : Int) + 15)) = 0)) (h22 : (cut % ((c.length : Int) + 15)) < 8) : ∀ k r, (k, r) ∈ hy4 → HOk (cx (nuL (nu4 t id c more cut)) (one4 t id c more cut) 0 laidE laidE_stab) k r := by
  have := Int.emod_nonneg cut (show ((c.length : Int) + 15) ≠ 0 by omega); have := Int.emod_lt_of_pos cut (show 0 < ((c.length : Int) + 15) by omega)
  unfold hy4
  refine hcons (kLenE (isX rfl) (denX rfl) (by first | omega | (simp only [List.length_append, List.length_cons, List.length_nil, List.length_take, List.length_drop, Int.natCast_add] at *; omega))) ?_
  refine hcons (kGt (isX rfl) (isZ (m := 2000) rfl) (decide_eq_false (by omega))) ?_
  refine hcons (kLenE (isX rfl) (denX rfl) (by first | omega | (simp only [List.length_append, List.length_cons, List.length_nil, List.length_take, List.length_drop, Int.natCast_add] at *; omega))) ?_
  refine hcons (kGt (isX rfl) (isZ (m := 200) rfl) (decide_eq_false (by omega))) ?_
  refine hcons (kEqI (isX rfl) (isZ (m := 0) rfl) (decide_eq_false (by omega))) ?_
  refine hcons (kConvF (isX rfl) tu3 (denX rfl) (fI64 (by omega) (by omega))) ?_
  refine hcons (kConvF (isX rfl) tu3 (denX rfl) (fI64 (by omega) (by omega))) ?_
  refine hcons (kMax (isX rfl) (isZ (m := 0) rfl) (denX rfl) rfl) ?_
  refine hcons (kNeg (isX rfl) (denX rfl) rfl (fI64 (by omega) (by omega))) ?_
  refine hcons (kAndG 3 8 rfl (by decide) (isX rfl) (isZ (m := 7) rfl) (denZ (m := 7) rfl) (fI64 (by omega) (by omega)) rfl (by omega) (fI64 (by omega) (by omega))) ?_
  refine hcons (kGe (isX rfl) (isZ (m := 1) rfl) (decide_eq_true (by omega))) ?_
  refine hcons (kLe (isX rfl) (isZ (m := 255) rfl) (decide_eq_true (by omega))) ?_
  refine hcons (kGe (isX rfl) (isZ (m := 0) rfl) (decide_eq_true (by omega))) ?_
  refine hcons (kLe (isX rfl) (isZ (m := 65535) rfl) (decide_eq_true (by omega))) ?_
  refine hcons (kLe (isX rfl) (isZ (m := 65535) rfl) (decide_eq_true (by omega))) ?_
  refine hcons (kConvF (isX rfl) tu5 (denX rfl) (fU8 (by omega) (by omega))) ?_
  refine hcons (kShrM 8 256 rfl (isX rfl) (isZ (m := 8) rfl) (denX rfl) rfl (by decide) (by omega) rfl) ?_
  refine hcons (kConvF (isX rfl) tu5 (denX rfl) (fU8 (by omega) (by omega))) ?_
  refine hcons (kConv8 (isX rfl) tu5 (denX rfl) rfl) ?_
  refine hcons (kShrM 8 256 rfl (isX rfl) (isZ (m := 8) rfl) (denX rfl) rfl (by decide) (by omega) rfl) ?_
  refine hcons (kConv8 (isX rfl) tu5 (denX rfl) rfl) ?_
  refine hcons (kConv8 (isX rfl) tu5 (denX rfl) rfl) ?_
  refine hcons (kBytesB (bs := [u8 1, u8 (t), u8 (id / 256), u8 (id % 256), u8 ((((c.length : Int)) / 256) % 256), u8 (((c.length : Int)) % 256), u8 7, u8 0]) (.cons (isB8 (isZ (m := 1) rfl) (by omega) (by omega)) (.cons (isB8 (isX rfl) (by omega) (by omega)) (.cons (isB8 (isX rfl) (by omega) (by omega)) (.cons (isB8 (isX rfl) (by omega) (by omega)) (.cons (isB8 (isX rfl) (by omega) (by omega)) (.cons (isB8 (isX rfl) (by omega) (by omega)) (.cons (isB8 (isZ (m := 7) rfl) (by omega) (by omega)) (.cons (isB8 (isZ (m := 0) rfl) (by omega) (by omega)) .nil)))))))) (denX rfl)) ?_
  refine hcons (kCat (isX rfl) (isX rfl) (denX rfl) (by first | rfl | (simp only [List.append_assoc, List.cons_append, List.nil_append, List.append_nil]; done)) (by first | omega | (simp only [List.length_append, List.length_cons, List.length_nil, List.length_take, List.length_drop, Int.natCast_add] at *; omega))) ?_
  refine hcons (kCat (isX rfl) (isSx (l := [u8 0, u8 0, u8 0, u8 0, u8 0, u8 0, u8 0]) 7 0 rfl) (denX rfl) (by first | rfl | (simp only [List.append_assoc, List.cons_append, List.nil_append, List.append_nil]; done)) (by first | omega | (simp only [List.length_append, List.length_cons, List.length_nil, List.length_take, List.length_drop, Int.natCast_add] at *; omega))) ?_
  refine hcons (kLenE (isX rfl) (denX rfl) (by first | omega | (simp only [List.length_append, List.length_cons, List.length_nil, List.length_take, List.length_drop, Int.natCast_add] at *; omega))) ?_
  refine hcons (kLt (isX rfl) (isZ (m := 8) rfl) (decide_eq_false (by omega))) ?_
  refine hcons (kRem (isX rfl) (isZ (m := 8) rfl) (denX rfl) (by omega) (by omega) rfl) ?_
  refine hcons (kNeI (isX rfl) (isZ (m := 0) rfl) (neF (by omega))) ?_
  refine hcons (kCat (isX rfl) (isX rfl) (denX rfl) (by first | rfl | (simp only [List.append_assoc, List.cons_append, List.nil_append, List.append_nil]; done)) (by first | omega | (simp only [List.length_append, List.length_cons, List.length_nil, List.length_take, List.length_drop, Int.natCast_add] at *; omega))) ?_
  refine hcons (kNeS (isX rfl) (isSx (l := ([] : List UInt8)) 0 0 rfl) (bnT (by first | exact nilT (by first | omega | (simp only [List.length_append, List.length_cons, List.length_nil, List.length_take, List.length_drop, Int.natCast_add] at *; omega)) | exact nilF (by first | omega | (simp only [List.length_append, List.length_cons, List.length_nil, List.length_take, List.length_drop, Int.natCast_add] at *; omega)) | exact nilT' (by first | omega | (simp only [List.length_append, List.length_cons, List.length_nil, List.length_take, List.length_drop, Int.natCast_add] at *; omega)) | exact nilF' (by first | omega | (simp only [List.length_append, List.length_cons, List.length_nil, List.length_take, List.length_drop, Int.natCast_add] at *; omega))))) ?_
  refine hcons (kIdxE (i := 0) (isX rfl) (isZ (m := 0) rfl) (denZ (m := 1) rfl) rfl (by first | omega | (simp only [List.length_append, List.length_cons, List.length_nil, List.length_take, List.length_drop, Int.natCast_add] at *; omega)) (bt_at rfl (by omega) (by omega))) ?_
  refine hcons (kLenE (isX rfl) (denX rfl) (by first | omega | (simp only [List.length_append, List.length_cons, List.length_nil, List.length_take, List.length_drop, Int.natCast_add] at *; omega))) ?_
  refine hcons (kLt (isX rfl) (isZ (m := 8) rfl) (decide_eq_false (by omega))) ?_
  refine hcons (kIdxE (i := 4) (isX rfl) (isZ (m := 4) rfl) (denX rfl) rfl (by first | omega | (simp only [List.length_append, List.length_cons, List.length_nil, List.length_take, List.length_drop, Int.natCast_add] at *; omega)) (bt_at rfl (by omega) (by omega))) ?_
  refine hcons (kConvF (isX rfl) tu3 (denX rfl) (fI64 (by omega) (by omega))) ?_
  refine hcons (kShlM 8 256 rfl (isX rfl) (isZ (m := 8) rfl) (denX rfl) rfl (by decide) rfl (fI64 (by omega) (by omega))) ?_
  refine hcons (kAdd (isZ (m := 8) rfl) (isX rfl) (denX rfl) rfl (fI64 (by omega) (by omega))) ?_
  refine hcons (kIdxE (i := 5) (isX rfl) (isZ (m := 5) rfl) (denX rfl) rfl (by first | omega | (simp only [List.length_append, List.length_cons, List.length_nil, List.length_take, List.length_drop, Int.natCast_add] at *; omega)) (bt_at rfl (by omega) (by omega))) ?_
  refine hcons (kConvF (isX rfl) tu3 (denX rfl) (fI64 (by omega) (by omega))) ?_
  refine hcons (kAdd (isX rfl) (isX rfl) (denX rfl) rfl (fI64 (by omega) (by omega))) ?_
  refine hcons (kIdxE (i := 6) (isX rfl) (isZ (m := 6) rfl) (denZ (m := 7) rfl) rfl (by first | omega | (simp only [List.length_append, List.length_cons, List.length_nil, List.length_take, List.length_drop, Int.natCast_add] at *; omega)) (bt_at rfl (by omega) (by omega))) ?_
  refine hcons (kAdd (isX rfl) (isZ (m := 7) rfl) (denX rfl) rfl (fI64 (by omega) (by omega))) ?_
  refine hcons (kLt (isX rfl) (isX rfl) (decide_eq_false (by omega))) ?_
  refine hcons (kIdxE (i := 1) (isX rfl) (isZ (m := 1) rfl) (denX rfl) rfl (by first | omega | (simp only [List.length_append, List.length_cons, List.length_nil, List.length_take, List.length_drop, Int.natCast_add] at *; omega)) (bt_at rfl (by omega) (by omega))) ?_
  refine hcons (kEqI (isX rfl) (isZ (m := 0) rfl) (decide_eq_false (by omega))) ?_
  refine hcons (kConvF (isX rfl) tu3 (denX rfl) (fI64 (by omega) (by omega))) ?_
  refine hcons (kIdxE (i := 2) (isX rfl) (isZ (m := 2) rfl) (denX rfl) rfl (by first | omega | (simp only [List.length_append, List.length_cons, List.length_nil, List.length_take, List.length_drop, Int.natCast_add] at *; omega)) (bt_at rfl (by omega) (by omega))) ?_
  refine hcons (kConvF (isX rfl) tu3 (denX rfl) (fI64 (by omega) (by omega))) ?_
  refine hcons (kShlM 8 256 rfl (isX rfl) (isZ (m := 8) rfl) (denX rfl) rfl (by decide) rfl (fI64 (by omega) (by omega))) ?_
  refine hcons (kIdxE (i := 3) (isX rfl) (isZ (m := 3) rfl) (denX rfl) rfl (by first | omega | (simp only [List.length_append, List.length_cons, List.length_nil, List.length_take, List.length_drop, Int.natCast_add] at *; omega)) (bt_at rfl (by omega) (by omega))) ?_
  refine hcons (kConvF (isX rfl) tu3 (denX rfl) (fI64 (by omega) (by omega))) ?_
  refine hcons (kOrM 8 256 rfl (isX rfl) (isX rfl) (denX rfl) (by omega) (by omega) (fI64 (by omega) (by omega)) (fI64 (by omega) (by omega)) (by omega) (by omega) rfl (fI64 (by omega) (by omega))) ?_
  refine hcons (kSub (isX rfl) (isZ (m := 7) rfl) (denX rfl) rfl (fI64 (by omega) (by omega))) ?_
  refine hcons (kCut (isX rfl) (.inr ⟨_, _, rfl, (isZ (m := 8) rfl)⟩) (.inr ⟨_, _, rfl, (isX rfl)⟩) (p := [u8 1, u8 (t), u8 (id / 256), u8 (id % 256), u8 ((((c.length : Int)) / 256) % 256), u8 (((c.length : Int)) % 256), u8 7, u8 0]) (m := c) (q := ([u8 0, u8 0, u8 0, u8 0, u8 0, u8 0, u8 0] ++ more)) (by first | rfl | (simp only [List.append_assoc, List.cons_append, List.nil_append, List.append_nil]; done)) (by first | omega | (simp only [List.length_append, List.length_cons, List.length_nil, List.length_take, List.length_drop, Int.natCast_add] at *; omega)) (by first | omega | (simp only [List.length_append, List.length_cons, List.length_nil, List.length_take, List.length_drop, Int.natCast_add] at *; omega)) (denX rfl)) ?_
  refine hcons (kCut (isX rfl) (.inr ⟨_, _, rfl, (isX rfl)⟩) (.inl ⟨rfl, rfl⟩) (p := ([u8 1, u8 (t), u8 (id / 256), u8 (id % 256), u8 ((((c.length : Int)) / 256) % 256), u8 (((c.length : Int)) % 256), u8 7, u8 0] ++ (c ++ [u8 0, u8 0, u8 0, u8 0, u8 0, u8 0, u8 0]))) (m := more) (q := ([] : List UInt8)) (by first | rfl | (simp only [List.append_assoc, List.cons_append, List.nil_append, List.append_nil]; done)) (by first | omega | (simp only [List.length_append, List.length_cons, List.length_nil, List.length_take, List.length_drop, Int.natCast_add] at *; omega)) (by first | omega | (simp only [List.length_append, List.length_cons, List.length_nil, List.length_take, List.length_drop, Int.natCast_add] at *; omega)) (denX rfl)) ?_
  refine hcons (kConvF (isX rfl) tu3 (denX rfl) (fI64 (by omega) (by omega))) ?_
  refine hcons (kRem (isX rfl) (isX rfl) (denX rfl) (by omega) (by omega) rfl) ?_
  refine hcons (kTake (isX rfl) (isX rfl) (by first | omega | (simp only [List.length_append, List.length_cons, List.length_nil, List.length_take, List.length_drop, Int.natCast_add] at *; omega)) (by first | omega | (simp only [List.length_append, List.length_cons, List.length_nil, List.length_take, List.length_drop, Int.natCast_add] at *; omega)) (denX rfl)) ?_
  refine hcons (kNeS (isX rfl) (isSx (l := ([] : List UInt8)) 0 0 rfl) (bnT (by first | exact nilT (by first | omega | (simp only [List.length_append, List.length_cons, List.length_nil, List.length_take, List.length_drop, Int.natCast_add] at *; omega)) | exact nilF (by first | omega | (simp only [List.length_append, List.length_cons, List.length_nil, List.length_take, List.length_drop, Int.natCast_add] at *; omega)) | exact nilT' (by first | omega | (simp only [List.length_append, List.length_cons, List.length_nil, List.length_take, List.length_drop, Int.natCast_add] at *; omega)) | exact nilF' (by first | omega | (simp only [List.length_append, List.length_cons, List.length_nil, List.length_take, List.length_drop, Int.natCast_add] at *; omega))))) ?_
  refine hcons (kIdxE (i := 0) (isX rfl) (isZ (m := 0) rfl) (denZ (m := 1) rfl) rfl (by first | omega | (simp only [List.length_append, List.length_cons, List.length_nil, List.length_take, List.length_drop, Int.natCast_add] at *; omega)) ((bt_take (by omega)).trans (bt_at rfl (by omega) (by omega)))) ?_
  refine hcons (kLenE (isX rfl) (denX rfl) (by first | omega | (simp only [List.length_append, List.length_cons, List.length_nil, List.length_take, List.length_drop, Int.natCast_add] at *; omega))) ?_
  refine hcons (kLt (isX rfl) (isZ (m := 8) rfl) (decide_eq_true (by omega))) ?_
  refine hcons (kEqT (isX rfl) (isX rfl) tu3 (decide_eq_true (by omega))) ?_
  refine hcons (kEqT (isX rfl) (isX rfl) tu3 (decide_eq_true (by omega))) ?_
  refine hcons (kEqTS (isX rfl) (isX rfl) tu9 (decide_eq_true rfl)) ?_
  refine hcons (kEqS (isX rfl) (isX rfl) (decide_eq_true rfl)) ?_
  exact hnil
theorem path4 (t : Int) (id : Int) (c : List UInt8) (more : List UInt8) (cut : Int) (b0 : 0 ≤ t) (b1 : t ≤ 255) (b2 : 0 ≤ id) (b3 : id ≤ 65535) (b4 : c.length ≤ 9223372036854775807) (b5 : more.length ≤ 9223372036854775807) (b6 : 0 ≤ cut) (b7 : cut ≤ 65535) (h0 : ¬ (2000 < (c.length : Int))) (h1 : ¬ (200 < (more.length : Int))) (h2 : ¬ (t = 0)) (h3 : ¬ ((-(max ((c.length : Int)) 0)) % 8 = 0)) (h4 : ¬ ((-(max ((c.length : Int)) 0)) % 8 = 1)) (h5 : ¬ ((-(max ((c.length : Int)) 0)) % 8 = 2)) (h6 : ¬ ((-(max ((c.length : Int)) 0)) % 8 = 3)) (h7 : ¬ ((-(max ((c.length : Int)) 0)) % 8 = 4)) (h8 : ¬ ((-(max ((c.length : Int)) 0)) % 8 = 5)) (h9 : ¬ ((-(max ((c.length : Int)) 0)) % 8 = 6)) (h21 : ¬ ((cut % ((c.length : Int) + 15)) = 0)) (h22 : (cut % ((c.length : Int) + 15)) < 8) (w : World) (hl : laidE w) : Calls Try.prog 3 #[.int .u8 t, .int .u16 id, St' c, .bool true, St' more, .int .u16 cut] w fun e w' => e = .returned (.bool true) ∧ Go.AX.Below w.heap.size w w' := by
  obtain ⟨fi, hfi, hb⟩ : ∃ fi, tabk.fn.get 3 = some fi ∧ fi.body.isSome = true := ⟨_, rfl, by kernel_rfl⟩
  exact runP (tb := tab4) ((tabkOk (nuL (nu4 t id c more cut)) (one4 t id c more cut)).hyps (hyOk4 t id c more cut b0 b1 b2 b3 b4 b5 b6 b7 h0 h1 h2 h3 h4 h5 h6 h7 h8 h9 h21 h22)) rfl hfi hb (run4 ) (args := [.int .u8 t, .int .u16 id, St' c, .bool true, St' more, .int .u16 cut]) (by simp only [RelL, Rel]; exact ⟨_, _, rfl, rfl, ⟨_, _, rfl, rfl, ⟨_, _, rfl, rfl, ⟨_, _, rfl, rfl, ⟨_, _, rfl, rfl, ⟨_, _, rfl, rfl, rfl⟩⟩⟩⟩⟩⟩) w hl
def hy5 : List (HK × AV) := [(.len (.x 2), .x 5),
  (.bin .gtr (.x 5) (.i .i64 (.ofNat 2000)), .b false),
  (.len (.x 3), .x 6),
  (.bin .gtr (.x 6) (.i .i64 (.ofNat 200)), .b false),
  (.bin .eql (.x 0) (.i .u8 (.ofNat 0)), .b false),
  (.conv 3 (.x 0), .x 7),
  (.conv 3 (.x 1), .x 8),
  (.mm true (.x 5) (.i .i64 (.ofNat 0)), .x 9),
  (.un .neg (.x 9), .x 10),
  (.bin .and (.x 10) (.i .i64 (.ofNat 7)), .i .i64 (.ofNat 7)),
  (.bin .geq (.x 7) (.i .i64 (.ofNat 1)), .b true),
  (.bin .leq (.x 7) (.i .i64 (.ofNat 255)), .b true),
  (.bin .geq (.x 8) (.i .i64 (.ofNat 0)), .b true),
  (.bin .leq (.x 8) (.i .i64 (.ofNat 65535)), .b true),
  (.bin .leq (.x 5) (.i .i64 (.ofNat 65535)), .b true),
  (.conv 5 (.x 7), .x 11),
  (.bin .shr (.x 8) (.i .u64 (.ofNat 8)), .x 12),
  (.conv 5 (.x 12), .x 13),
  (.conv 5 (.x 8), .x 14),
  (.bin .shr (.x 5) (.i .u64 (.ofNat 8)), .x 15),
  (.conv 5 (.x 15), .x 16),
  (.conv 5 (.x 5), .x 17),
  (.bytes [.i .u8 (.ofNat 1), .x 11, .x 13, .x 14, .x 16, .x 17, .i .u8 (.ofNat 7), .i .u8 (.ofNat 0)], .x 18),
  (.bin .add (.x 18) (.x 2), .x 19),
  (.bin .add (.x 19) (.s 7 0), .x 20),
  (.len (.x 20), .x 21),
  (.bin .lss (.x 21) (.i .i64 (.ofNat 8)), .b false),
  (.bin .rem (.x 21) (.i .i64 (.ofNat 8)), .x 22),
  (.bin .neq (.x 22) (.i .i64 (.ofNat 0)), .b false),
  (.bin .add (.x 20) (.x 3), .x 23),
  (.bin .neq (.x 23) (.s 0 0), .b true),
  (.idx (.x 23) (.i .i64 (.ofNat 0)), .i .u8 (.ofNat 1)),
  (.len (.x 23), .x 24),
  (.bin .lss (.x 24) (.i .i64 (.ofNat 8)), .b false),
  (.idx (.x 23) (.i .i64 (.ofNat 4)), .x 25),
  (.conv 3 (.x 25), .x 26),
  (.bin .shl (.x 26) (.i .u64 (.ofNat 8)), .x 27),
  (.bin .add (.i .i64 (.ofNat 8)) (.x 27), .x 28),
  (.idx (.x 23) (.i .i64 (.ofNat 5)), .x 29),
  (.conv 3 (.x 29), .x 30),
  (.bin .add (.x 28) (.x 30), .x 31),
  (.idx (.x 23) (.i .i64 (.ofNat 6)), .i .u8 (.ofNat 7)),
  (.bin .add (.x 31) (.i .i64 (.ofNat 7)), .x 32),
  (.bin .lss (.x 24) (.x 32), .b false),
  (.idx (.x 23) (.i .i64 (.ofNat 1)), .x 33),
  (.bin .eql (.x 33) (.i .u8 (.ofNat 0)), .b false),
  (.conv 3 (.x 33), .x 34),
  (.idx (.x 23) (.i .i64 (.ofNat 2)), .x 35),
  (.conv 3 (.x 35), .x 36),
  (.bin .shl (.x 36) (.i .u64 (.ofNat 8)), .x 37),
  (.idx (.x 23) (.i .i64 (.ofNat 3)), .x 38),
  (.conv 3 (.x 38), .x 39),
  (.bin .or (.x 37) (.x 39), .x 40),
  (.bin .sub (.x 32) (.i .i64 (.ofNat 7)), .x 41),
  (.sub (.x 23) (some (.i .i64 (.ofNat 8))) (some (.x 41)), .x 42),
  (.sub (.x 23) (some (.x 32)) none, .x 43),
  (.conv 3 (.x 4), .x 44),
  (.bin .rem (.x 44) (.x 21), .x 45),
  (.sub (.x 20) none (some (.x 45)), .x 46),
  (.bin .neq (.x 46) (.s 0 0), .b true),
  (.idx (.x 46) (.i .i64 (.ofNat 0)), .i .u8 (.ofNat 1)),
  (.len (.x 46), .x 47),
  (.bin .lss (.x 47) (.i .i64 (.ofNat 8)), .b false),
  (.idx (.x 46) (.i .i64 (.ofNat 4)), .x 48),
  (.conv 3 (.x 48), .x 49),
  (.bin .shl (.x 49) (.i .u64 (.ofNat 8)), .x 50),
  (.bin .add (.i .i64 (.ofNat 8)) (.x 50), .x 51),
  (.idx (.x 46) (.i .i64 (.ofNat 5)), .x 52),
  (.conv 3 (.x 52), .x 53),
  (.bin .add (.x 51) (.x 53), .x 54),
  (.idx (.x 46) (.i .i64 (.ofNat 6)), .i .u8 (.ofNat 7)),
  (.bin .add (.x 54) (.i .i64 (.ofNat 7)), .x 55),
  (.bin .lss (.x 47) (.x 55), .b true),
  (.eq 3 (.x 34) (.x 7), .b true),
  (.eq 3 (.x 40) (.x 8), .b true),
  (.eq 9 (.x 42) (.x 2), .b true),
  (.bin .eql (.x 43) (.x 3), .b true)]
noncomputable def tab5 : Tab := { tabk with hyp := hy5 }
theorem run5 : okB (call tab5 9000 3 [.x 0, .x 1, .x 2, .b true, .x 3, .x 4] ⟨H0 , 1, 0, 0⟩) = true := by kernel_rfl
def nu5 (t : Int) (id : Int) (c : List UInt8) (more : List UInt8) (cut : Int) : List Value := [.int .u8 (t),
  .int .u16 (id),
  St' c,
  St' more,
  .int .u16 (cut),
  .int .i64 ((c.length : Int)),
  .int .i64 ((more.length : Int)),
  .int .i64 (t),
  .int .i64 (id),
  .int .i64 (max ((c.length : Int)) 0),
  .int .i64 (-(max ((c.length : Int)) 0)),
  .int .u8 (t),
  .int .i64 (id / 256),
  .int .u8 (id / 256),
  .int .u8 (id % 256),
  .int .i64 (((c.length : Int)) / 256),
  .int .u8 ((((c.length : Int)) / 256) % 256),
  .int .u8 (((c.length : Int)) % 256),
  St' ([u8 1, u8 (t), u8 (id / 256), u8 (id % 256), u8 ((((c.length : Int)) / 256) % 256), u8 (((c.length : Int)) % 256), u8 7, u8 0]),
  St' (([u8 1, u8 (t), u8 (id / 256), u8 (id % 256), u8 ((((c.length : Int)) / 256) % 256), u8 (((c.length : Int)) % 256), u8 7, u8 0] ++ c)),
  St' (([u8 1, u8 (t), u8 (id / 256), u8 (id % 256), u8 ((((c.length : Int)) / 256) % 256), u8 (((c.length : Int)) % 256), u8 7, u8 0] ++ (c ++ [u8 0, u8 0, u8 0, u8 0, u8 0, u8 0, u8 0]))),
  .int .i64 ((c.length : Int) + 15),
  .int .i64 (((c.length : Int) + 15) % 8),
  St' (([u8 1, u8 (t), u8 (id / 256), u8 (id % 256), u8 ((((c.length : Int)) / 256) % 256), u8 (((c.length : Int)) % 256), u8 7, u8 0] ++ (c ++ ([u8 0, u8 0, u8 0, u8 0, u8 0, u8 0, u8 0] ++ more)))),
  .int .i64 ((c.length : Int) + (more.length : Int) + 15),
  .int .u8 ((((c.length : Int)) / 256) % 256),
  .int .i64 ((((c.length : Int)) / 256) % 256),
  .int .i64 (((((c.length : Int)) / 256) % 256) * 256),
  .int .i64 (8 + (((((c.length : Int)) / 256) % 256) * 256)),
  .int .u8 (((c.length : Int)) % 256),
  .int .i64 (((c.length : Int)) % 256),
  .int .i64 ((8 + (((((c.length : Int)) / 256) % 256) * 256)) + (((c.length : Int)) % 256)),
  .int .i64 (((8 + (((((c.length : Int)) / 256) % 256) * 256)) + (((c.length : Int)) % 256)) + 7),
  .int .u8 (t),
  .int .i64 (t),
  .int .u8 (id / 256),
  .int .i64 (id / 256),
  .int .i64 ((id / 256) * 256),
  .int .u8 (id % 256),
  .int .i64 (id % 256),
  .int .i64 (((id / 256) * 256) + (id % 256)),
  .int .i64 ((((8 + (((((c.length : Int)) / 256) % 256) * 256)) + (((c.length : Int)) % 256)) + 7) - 7),
  St' c,
  St' more,
  .int .i64 (cut),
  .int .i64 (cut % ((c.length : Int) + 15)),
  St' ((List.take (cut % ((c.length : Int) + 15)).toNat (([u8 1, u8 (t), u8 (id / 256), u8 (id % 256), u8 ((((c.length : Int)) / 256) % 256), u8 (((c.length : Int)) % 256), u8 7, u8 0] ++ (c ++ [u8 0, u8 0, u8 0, u8 0, u8 0, u8 0, u8 0]))))),
  .int .i64 ((cut % ((c.length : Int) + 15))),
  .int .u8 ((((c.length : Int)) / 256) % 256),
  .int .i64 ((((c.length : Int)) / 256) % 256),
  .int .i64 (((((c.length : Int)) / 256) % 256) * 256),
  .int .i64 (8 + (((((c.length : Int)) / 256) % 256) * 256)),
  .int .u8 (((c.length : Int)) % 256),
  .int .i64 (((c.length : Int)) % 256),
  .int .i64 ((8 + (((((c.length : Int)) / 256) % 256) * 256)) + (((c.length : Int)) % 256)),
  .int .i64 (((8 + (((((c.length : Int)) / 256) % 256) * 256)) + (((c.length : Int)) % 256)) + 7)]
theorem one5 (t : Int) (id : Int) (c : List UInt8) (more : List UInt8) (cut : Int) : ∀ j, (nuL (nu5 t id c more cut) j).oneCell' = true := nuL_one (l := nu5 t id c more cut) rfl
set_option maxHeartbeats 2000000 in
theorem hyOk5 (t : Int) (id : Int) (c : List UInt8) (more : List UInt8) (cut : Int) (b0 : 0 ≤ t) (b1 : t ≤ 255) (b2 : 0 ≤ id) (b3 : id ≤ 65535) (b4 : c.length ≤ 9223372036854775807) (b5 : more.length ≤ 9223372036854775807) (b6 : 0 ≤ cut) (b7 : cut ≤ 65535) (h0 : ¬ (2000 < (c.length : Int))) (h1 : ¬ (200 < (more.length : Int))) (h2 : ¬ (t = 0)) (h3 : ¬ ((-(max ((c.length : Int)) 0)) % 8 = 0)) (h4 : ¬ ((-(max ((c.length : Int)) 0)) % 8 = 1)) (h5 : ¬ ((-(max ((c.length : Int)) 0)) % 8 = 2)) (h6 : ¬ ((-(max ((c.length : Int)) 0)) % 8 = 3)) (h7 : ¬ ((-(max ((c.length : Int)) 0)) % 8 = 4)) (h8 : ¬ ((-(max ((c.length : Int)) 0)) % 8 = 5)) (h9 : ¬ ((-(max ((c.length : Int)) 0)) % 8 = 6)) (h21 : ¬ ((cut % ((c.length : Int) + 15)) = 0)) (h22 : ¬ ((cut % ((c.length : Int) + 15)) < 8)) : ∀ k r, (k, r) ∈ hy5 → HOk (cx (nuL (nu5 t id c more cut)) (one5 t id c more cut) 0 laidE laidE_stab) k r := by
  have := Int.emod_nonneg cut (show ((c.length : Int) + 15) ≠ 0 by omega); have := Int.emod_lt_of_pos cut (show 0 < ((c.length : Int) + 15) by omega)
  unfold hy5
  refine hcons (kLenE (isX rfl) (denX rfl) (by first | omega | (simp only [List.length_append, List.length_cons, List.length_nil, List.length_take, List.length_drop, Int.natCast_add] at *; omega))) ?_
  refine hcons (kGt (isX rfl) (isZ (m := 2000) rfl) (decide_eq_false (by omega))) ?_
  refine hcons (kLenE (isX rfl) (denX rfl) (by first | omega | (simp only [List.length_append, List.length_cons, List.length_nil, List.length_take, List.length_drop, Int.natCast_add] at *; omega))) ?_
  refine hcons (kGt (isX rfl) (isZ (m := 200) rfl) (decide_eq_false (by omega))) ?_
  refine hcons (kEqI (isX rfl) (isZ (m := 0) rfl) (decide_eq_false (by omega))) ?_
  refine hcons (kConvF (isX rfl) tu3 (denX rfl) (fI64 (by omega) (by omega))) ?_
  refine hcons (kConvF (isX rfl) tu3 (denX rfl) (fI64 (by omega) (by omega))) ?_
  refine hcons (kMax (isX rfl) (isZ (m := 0) rfl) (denX rfl) rfl) ?_
  refine hcons (kNeg (isX rfl) (denX rfl) rfl (fI64 (by omega) (by omega))) ?_
  refine hcons (kAndG 3 8 rfl (by decide) (isX rfl) (isZ (m := 7) rfl) (denZ (m := 7) rfl) (fI64 (by omega) (by omega)) rfl (by omega) (fI64 (by omega) (by omega))) ?_
  refine hcons (kGe (isX rfl) (isZ (m := 1) rfl) (decide_eq_true (by omega))) ?_
  refine hcons (kLe (isX rfl) (isZ (m := 255) rfl) (decide_eq_true (by omega))) ?_
  refine hcons (kGe (isX rfl) (isZ (m := 0) rfl) (decide_eq_true (by omega))) ?_
  refine hcons (kLe (isX rfl) (isZ (m := 65535) rfl) (decide_eq_true (by omega))) ?_
  refine hcons (kLe (isX rfl) (isZ (m := 65535) rfl) (decide_eq_true (by omega))) ?_
  refine hcons (kConvF (isX rfl) tu5 (denX rfl) (fU8 (by omega) (by omega))) ?_
  refine hcons (kShrM 8 256 rfl (isX rfl) (isZ (m := 8) rfl) (denX rfl) rfl (by decide) (by omega) rfl) ?_
  refine hcons (kConvF (isX rfl) tu5 (denX rfl) (fU8 (by omega) (by omega))) ?_
  refine hcons (kConv8 (isX rfl) tu5 (denX rfl) rfl) ?_
  refine hcons (kShrM 8 256 rfl (isX rfl) (isZ (m := 8) rfl) (denX rfl) rfl (by decide) (by omega) rfl) ?_
  refine hcons (kConv8 (isX rfl) tu5 (denX rfl) rfl) ?_
  refine hcons (kConv8 (isX rfl) tu5 (denX rfl) rfl) ?_
  refine hcons (kBytesB (bs := [u8 1, u8 (t), u8 (id / 256), u8 (id % 256), u8 ((((c.length : Int)) / 256) % 256), u8 (((c.length : Int)) % 256), u8 7, u8 0]) (.cons (isB8 (isZ (m := 1) rfl) (by omega) (by omega)) (.cons (isB8 (isX rfl) (by omega) (by omega)) (.cons (isB8 (isX rfl) (by omega) (by omega)) (.cons (isB8 (isX rfl) (by omega) (by omega)) (.cons (isB8 (isX rfl) (by omega) (by omega)) (.cons (isB8 (isX rfl) (by omega) (by omega)) (.cons (isB8 (isZ (m := 7) rfl) (by omega) (by omega)) (.cons (isB8 (isZ (m := 0) rfl) (by omega) (by omega)) .nil)))))))) (denX rfl)) ?_
  refine hcons (kCat (isX rfl) (isX rfl) (denX rfl) (by first | rfl | (simp only [List.append_assoc, List.cons_append, List.nil_append, List.append_nil]; done)) (by first | omega | (simp only [List.length_append, List.length_cons, List.length_nil, List.length_take, List.length_drop, Int.natCast_add] at *; omega))) ?_
  refine hcons (kCat (isX rfl) (isSx (l := [u8 0, u8 0, u8 0, u8 0, u8 0, u8 0, u8 0]) 7 0 rfl) (denX rfl) (by first | rfl | (simp only [List.append_assoc, List.cons_append, List.nil_append, List.append_nil]; done)) (by first | omega | (simp only [List.length_append, List.length_cons, List.length_nil, List.length_take, List.length_drop, Int.natCast_add] at *; omega))) ?_
  refine hcons (kLenE (isX rfl) (denX rfl) (by first | omega | (simp only [List.length_append, List.length_cons, List.length_nil, List.length_take, List.length_drop, Int.natCast_add] at *; omega))) ?_
  refine hcons (kLt (isX rfl) (isZ (m := 8) rfl) (decide_eq_false (by omega))) ?_
  refine hcons (kRem (isX rfl) (isZ (m := 8) rfl) (denX rfl) (by omega) (by omega) rfl) ?_
  refine hcons (kNeI (isX rfl) (isZ (m := 0) rfl) (neF (by omega))) ?_
  refine hcons (kCat (isX rfl) (isX rfl) (denX rfl) (by first | rfl | (simp only [List.append_assoc, List.cons_append, List.nil_append, List.append_nil]; done)) (by first | omega | (simp only [List.length_append, List.length_cons, List.length_nil, List.length_take, List.length_drop, Int.natCast_add] at *; omega))) ?_
  refine hcons (kNeS (isX rfl) (isSx (l := ([] : List UInt8)) 0 0 rfl) (bnT (by first | exact nilT (by first | omega | (simp only [List.length_append, List.length_cons, List.length_nil, List.length_take, List.length_drop, Int.natCast_add] at *; omega)) | exact nilF (by first | omega | (simp only [List.length_append, List.length_cons, List.length_nil, List.length_take, List.length_drop, Int.natCast_add] at *; omega)) | exact nilT' (by first | omega | (simp only [List.length_append, List.length_cons, List.length_nil, List.length_take, List.length_drop, Int.natCast_add] at *; omega)) | exact nilF' (by first | omega | (simp only [List.length_append, List.length_cons, List.length_nil, List.length_take, List.length_drop, Int.natCast_add] at *; omega))))) ?_
  refine hcons (kIdxE (i := 0) (isX rfl) (isZ (m := 0) rfl) (denZ (m := 1) rfl) rfl (by first | omega | (simp only [List.length_append, List.length_cons, List.length_nil, List.length_take, List.length_drop, Int.natCast_add] at *; omega)) (bt_at rfl (by omega) (by omega))) ?_
  refine hcons (kLenE (isX rfl) (denX rfl) (by first | omega | (simp only [List.length_append, List.length_cons, List.length_nil, List.length_take, List.length_drop, Int.natCast_add] at *; omega))) ?_
  refine hcons (kLt (isX rfl) (isZ (m := 8) rfl) (decide_eq_false (by omega))) ?_
  refine hcons (kIdxE (i := 4) (isX rfl) (isZ (m := 4) rfl) (denX rfl) rfl (by first | omega | (simp only [List.length_append, List.length_cons, List.length_nil, List.length_take, List.length_drop, Int.natCast_add] at *; omega)) (bt_at rfl (by omega) (by omega))) ?_
  refine hcons (kConvF (isX rfl) tu3 (denX rfl) (fI64 (by omega) (by omega))) ?_
  refine hcons (kShlM 8 256 rfl (isX rfl) (isZ (m := 8) rfl) (denX rfl) rfl (by decide) rfl (fI64 (by omega) (by omega))) ?_
  refine hcons (kAdd (isZ (m := 8) rfl) (isX rfl) (denX rfl) rfl (fI64 (by omega) (by omega))) ?_
  refine hcons (kIdxE (i := 5) (isX rfl) (isZ (m := 5) rfl) (denX rfl) rfl (by first | omega | (simp only [List.length_append, List.length_cons, List.length_nil, List.length_take, List.length_drop, Int.natCast_add] at *; omega)) (bt_at rfl (by omega) (by omega))) ?_
  refine hcons (kConvF (isX rfl) tu3 (denX rfl) (fI64 (by omega) (by omega))) ?_
  refine hcons (kAdd (isX rfl) (isX rfl) (denX rfl) rfl (fI64 (by omega) (by omega))) ?_
  refine hcons (kIdxE (i := 6) (isX rfl) (isZ (m := 6) rfl) (denZ (m := 7) rfl) rfl (by first | omega | (simp only [List.length_append, List.length_cons, List.length_nil, List.length_take, List.length_drop, Int.natCast_add] at *; omega)) (bt_at rfl (by omega) (by omega))) ?_
  refine hcons (kAdd (isX rfl) (isZ (m := 7) rfl) (denX rfl) rfl (fI64 (by omega) (by omega))) ?_
  refine hcons (kLt (isX rfl) (isX rfl) (decide_eq_false (by omega))) ?_
  refine hcons (kIdxE (i := 1) (isX rfl) (isZ (m := 1) rfl) (denX rfl) rfl (by first | omega | (simp only [List.length_append, List.length_cons, List.length_nil, List.length_take, List.length_drop, Int.natCast_add] at *; omega)) (bt_at rfl (by omega) (by omega))) ?_
  refine hcons (kEqI (isX rfl) (isZ (m := 0) rfl) (decide_eq_false (by omega))) ?_
  refine hcons (kConvF (isX rfl) tu3 (denX rfl) (fI64 (by omega) (by omega))) ?_
  refine hcons (kIdxE (i := 2) (isX rfl) (isZ (m := 2) rfl) (denX rfl) rfl (by first | omega | (simp only [List.length_append, List.length_cons, List.length_nil, List.length_take, List.length_drop, Int.natCast_add] at *; omega)) (bt_at rfl (by omega) (by omega))) ?_
  refine hcons (kConvF (isX rfl) tu3 (denX rfl) (fI64 (by omega) (by omega))) ?_
  refine hcons (kShlM 8 256 rfl (isX rfl) (isZ (m := 8) rfl) (denX rfl) rfl (by decide) rfl (fI64 (by omega) (by omega))) ?_
  refine hcons (kIdxE (i := 3) (isX rfl) (isZ (m := 3) rfl) (denX rfl) rfl (by first | omega | (simp only [List.length_append, List.length_cons, List.length_nil, List.length_take, List.length_drop, Int.natCast_add] at *; omega)) (bt_at rfl (by omega) (by omega))) ?_
  refine hcons (kConvF (isX rfl) tu3 (denX rfl) (fI64 (by omega) (by omega))) ?_
  refine hcons (kOrM 8 256 rfl (isX rfl) (isX rfl) (denX rfl) (by omega) (by omega) (fI64 (by omega) (by omega)) (fI64 (by omega) (by omega)) (by omega) (by omega) rfl (fI64 (by omega) (by omega))) ?_
  refine hcons (kSub (isX rfl) (isZ (m := 7) rfl) (denX rfl) rfl (fI64 (by omega) (by omega))) ?_
  refine hcons (kCut (isX rfl) (.inr ⟨_, _, rfl, (isZ (m := 8) rfl)⟩) (.inr ⟨_, _, rfl, (isX rfl)⟩) (p := [u8 1, u8 (t), u8 (id / 256), u8 (id % 256), u8 ((((c.length : Int)) / 256) % 256), u8 (((c.length : Int)) % 256), u8 7, u8 0]) (m := c) (q := ([u8 0, u8 0, u8 0, u8 0, u8 0, u8 0, u8 0] ++ more)) (by first | rfl | (simp only [List.append_assoc, List.cons_append, List.nil_append, List.append_nil]; done)) (by first | omega | (simp only [List.length_append, List.length_cons, List.length_nil, List.length_take, List.length_drop, Int.natCast_add] at *; omega)) (by first | omega | (simp only [List.length_append, List.length_cons, List.length_nil, List.length_take, List.length_drop, Int.natCast_add] at *; omega)) (denX rfl)) ?_
  refine hcons (kCut (isX rfl) (.inr ⟨_, _, rfl, (isX rfl)⟩) (.inl ⟨rfl, rfl⟩) (p := ([u8 1, u8 (t), u8 (id / 256), u8 (id % 256), u8 ((((c.length : Int)) / 256) % 256), u8 (((c.length : Int)) % 256), u8 7, u8 0] ++ (c ++ [u8 0, u8 0, u8 0, u8 0, u8 0, u8 0, u8 0]))) (m := more) (q := ([] : List UInt8)) (by first | rfl | (simp only [List.append_assoc, List.cons_append, List.nil_append, List.append_nil]; done)) (by first | omega | (simp only [List.length_append, List.length_cons, List.length_nil, List.length_take, List.length_drop, Int.natCast_add] at *; omega)) (by first | omega | (simp only [List.length_append, List.length_cons, List.length_nil, List.length_take, List.length_drop, Int.natCast_add] at *; omega)) (denX rfl)) ?_
  refine hcons (kConvF (isX rfl) tu3 (denX rfl) (fI64 (by omega) (by omega))) ?_
  refine hcons (kRem (isX rfl) (isX rfl) (denX rfl) (by omega) (by omega) rfl) ?_
  refine hcons (kTake (isX rfl) (isX rfl) (by first | omega | (simp only [List.length_append, List.length_cons, List.length_nil, List.length_take, List.length_drop, Int.natCast_add] at *; omega)) (by first | omega | (simp only [List.length_append, List.length_cons, List.length_nil, List.length_take, List.length_drop, Int.natCast_add] at *; omega)) (denX rfl)) ?_
  refine hcons (kNeS (isX rfl) (isSx (l := ([] : List UInt8)) 0 0 rfl) (bnT (by first | exact nilT (by first | omega | (simp only [List.length_append, List.length_cons, List.length_nil, List.length_take, List.length_drop, Int.natCast_add] at *; omega)) | exact nilF (by first | omega | (simp only [List.length_append, List.length_cons, List.length_nil, List.length_take, List.length_drop, Int.natCast_add] at *; omega)) | exact nilT' (by first | omega | (simp only [List.length_append, List.length_cons, List.length_nil, List.length_take, List.length_drop, Int.natCast_add] at *; omega)) | exact nilF' (by first | omega | (simp only [List.length_append, List.length_cons, List.length_nil, List.length_take, List.length_drop, Int.natCast_add] at *; omega))))) ?_
  refine hcons (kIdxE (i := 0) (isX rfl) (isZ (m := 0) rfl) (denZ (m := 1) rfl) rfl (by first | omega | (simp only [List.length_append, List.length_cons, List.length_nil, List.length_take, List.length_drop, Int.natCast_add] at *; omega)) ((bt_take (by omega)).trans (bt_at rfl (by omega) (by omega)))) ?_
  refine hcons (kLenE (isX rfl) (denX rfl) (by first | omega | (simp only [List.length_append, List.length_cons, List.length_nil, List.length_take, List.length_drop, Int.natCast_add] at *; omega))) ?_
  refine hcons (kLt (isX rfl) (isZ (m := 8) rfl) (decide_eq_false (by omega))) ?_
  refine hcons (kIdxE (i := 4) (isX rfl) (isZ (m := 4) rfl) (denX rfl) rfl (by first | omega | (simp only [List.length_append, List.length_cons, List.length_nil, List.length_take, List.length_drop, Int.natCast_add] at *; omega)) ((bt_take (by omega)).trans (bt_at rfl (by omega) (by omega)))) ?_
  refine hcons (kConvF (isX rfl) tu3 (denX rfl) (fI64 (by omega) (by omega))) ?_
  refine hcons (kShlM 8 256 rfl (isX rfl) (isZ (m := 8) rfl) (denX rfl) rfl (by decide) rfl (fI64 (by omega) (by omega))) ?_
  refine hcons (kAdd (isZ (m := 8) rfl) (isX rfl) (denX rfl) rfl (fI64 (by omega) (by omega))) ?_
  refine hcons (kIdxE (i := 5) (isX rfl) (isZ (m := 5) rfl) (denX rfl) rfl (by first | omega | (simp only [List.length_append, List.length_cons, List.length_nil, List.length_take, List.length_drop, Int.natCast_add] at *; omega)) ((bt_take (by omega)).trans (bt_at rfl (by omega) (by omega)))) ?_
  refine hcons (kConvF (isX rfl) tu3 (denX rfl) (fI64 (by omega) (by omega))) ?_
  refine hcons (kAdd (isX rfl) (isX rfl) (denX rfl) rfl (fI64 (by omega) (by omega))) ?_
  refine hcons (kIdxE (i := 6) (isX rfl) (isZ (m := 6) rfl) (denZ (m := 7) rfl) rfl (by first | omega | (simp only [List.length_append, List.length_cons, List.length_nil, List.length_take, List.length_drop, Int.natCast_add] at *; omega)) ((bt_take (by omega)).trans (bt_at rfl (by omega) (by omega)))) ?_
  refine hcons (kAdd (isX rfl) (isZ (m := 7) rfl) (denX rfl) rfl (fI64 (by omega) (by omega))) ?_
  refine hcons (kLt (isX rfl) (isX rfl) (decide_eq_true (by omega))) ?_
  refine hcons (kEqT (isX rfl) (isX rfl) tu3 (decide_eq_true (by omega))) ?_
  refine hcons (kEqT (isX rfl) (isX rfl) tu3 (decide_eq_true (by omega))) ?_
  refine hcons (kEqTS (isX rfl) (isX rfl) tu9 (decide_eq_true rfl)) ?_
  refine hcons (kEqS (isX rfl) (isX rfl) (decide_eq_true rfl)) ?_
  exact hnil
theorem path5 (t : Int) (id : Int) (c : List UInt8) (more : List UInt8) (cut : Int) (b0 : 0 ≤ t) (b1 : t ≤ 255) (b2 : 0 ≤ id) (b3 : id ≤ 65535) (b4 : c.length ≤ 9223372036854775807) (b5 : more.length ≤ 9223372036854775807) (b6 : 0 ≤ cut) (b7 : cut ≤ 65535) (h0 : ¬ (2000 < (c.length : Int))) (h1 : ¬ (200 < (more.length : Int))) (h2 : ¬ (t = 0)) (h3 : ¬ ((-(max ((c.length : Int)) 0)) % 8 = 0)) (h4 : ¬ ((-(max ((c.length : Int)) 0)) % 8 = 1)) (h5 : ¬ ((-(max ((c.length : Int)) 0)) % 8 = 2)) (h6 : ¬ ((-(max ((c.length : Int)) 0)) % 8 = 3)) (h7 : ¬ ((-(max ((c.length : Int)) 0)) % 8 = 4)) (h8 : ¬ ((-(max ((c.length : Int)) 0)) % 8 = 5)) (h9 : ¬ ((-(max ((c.length : Int)) 0)) % 8 = 6)) (h21 : ¬ ((cut % ((c.length : Int) + 15)) = 0)) (h22 : ¬ ((cut % ((c.length : Int) + 15)) < 8)) (w : World) (hl : laidE w) : Calls Try.prog 3 #[.int .u8 t, .int .u16 id, St' c, .bool true, St' more, .int .u16 cut] w fun e w' => e = .returned (.bool true) ∧ Go.AX.Below w.heap.size w w' := by
  obtain ⟨fi, hfi, hb⟩ : ∃ fi, tabk.fn.get 3 = some fi ∧ fi.body.isSome = true := ⟨_, rfl, by kernel_rfl⟩
  exact runP (tb := tab5) ((tabkOk (nuL (nu5 t id c more cut)) (one5 t id c more cut)).hyps (hyOk5 t id c more cut b0 b1 b2 b3 b4 b5 b6 b7 h0 h1 h2 h3 h4 h5 h6 h7 h8 h9 h21 h22)) rfl hfi hb (run5 ) (args := [.int .u8 t, .int .u16 id, St' c, .bool true, St' more, .int .u16 cut]) (by simp only [RelL, Rel]; exact ⟨_, _, rfl, rfl, ⟨_, _, rfl, rfl, ⟨_, _, rfl, rfl, ⟨_, _, rfl, rfl, ⟨_, _, rfl, rfl, ⟨_, _, rfl, rfl, rfl⟩⟩⟩⟩⟩⟩) w hl
def hy6 : List (HK × AV) := [(.len (.x 2), .x 5),
  (.bin .gtr (.x 5) (.i .i64 (.ofNat 2000)), .b false),
  (.len (.x 3), .x 6),
  (.bin .gtr (.x 6) (.i .i64 (.ofNat 200)), .b false),
  (.bin .eql (.x 0) (.i .u8 (.ofNat 0)), .b false),
  (.conv 3 (.x 0), .x 7),
  (.conv 3 (.x 1), .x 8),
  (.mm true (.x 5) (.i .i64 (.ofNat 0)), .x 9),
  (.un .neg (.x 9), .x 10),
  (.bin .and (.x 10) (.i .i64 (.ofNat 7)), .i .i64 (.ofNat 6)),
  (.bin .geq (.x 7) (.i .i64 (.ofNat 1)), .b true),
  (.bin .leq (.x 7) (.i .i64 (.ofNat 255)), .b true),
  (.bin .geq (.x 8) (.i .i64 (.ofNat 0)), .b true),
  (.bin .leq (.x 8) (.i .i64 (.ofNat 65535)), .b true),
  (.bin .leq (.x 5) (.i .i64 (.ofNat 65535)), .b true),
  (.conv 5 (.x 7), .x 11),
  (.bin .shr (.x 8) (.i .u64 (.ofNat 8)), .x 12),
  (.conv 5 (.x 12), .x 13),
  (.conv 5 (.x 8), .x 14),
  (.bin .shr (.x 5) (.i .u64 (.ofNat 8)), .x 15),
  (.conv 5 (.x 15), .x 16),
  (.conv 5 (.x 5), .x 17),
  (.bytes [.i .u8 (.ofNat 1), .x 11, .x 13, .x 14, .x 16, .x 17, .i .u8 (.ofNat 6), .i .u8 (.ofNat 0)], .x 18),
  (.bin .add (.x 18) (.x 2), .x 19),
  (.bin .add (.x 19) (.s 6 0), .x 20),
  (.len (.x 20), .x 21),
  (.bin .lss (.x 21) (.i .i64 (.ofNat 8)), .b false),
  (.bin .rem (.x 21) (.i .i64 (.ofNat 8)), .x 22),
  (.bin .neq (.x 22) (.i .i64 (.ofNat 0)), .b false),
  (.bin .add (.x 20) (.x 3), .x 23),
  (.bin .neq (.x 23) (.s 0 0), .b true),
  (.idx (.x 23) (.i .i64 (.ofNat 0)), .i .u8 (.ofNat 1)),
  (.len (.x 23), .x 24),
  (.bin .lss (.x 24) (.i .i64 (.ofNat 8)), .b false),
  (.idx (.x 23) (.i .i64 (.ofNat 4)), .x 25),
  (.conv 3 (.x 25), .x 26),
  (.bin .shl (.x 26) (.i .u64 (.ofNat 8)), .x 27),
  (.bin .add (.i .i64 (.ofNat 8)) (.x 27), .x 28),
  (.idx (.x 23) (.i .i64 (.ofNat 5)), .x 29),
  (.conv 3 (.x 29), .x 30),
  (.bin .add (.x 28) (.x 30), .x 31),
  (.idx (.x 23) (.i .i64 (.ofNat 6)), .i .u8 (.ofNat 6)),
  (.bin .add (.x 31) (.i .i64 (.ofNat 6)), .x 32),
  (.bin .lss (.x 24) (.x 32), .b false),
  (.idx (.x 23) (.i .i64 (.ofNat 1)), .x 33),
  (.bin .eql (.x 33) (.i .u8 (.ofNat 0)), .b false),
  (.conv 3 (.x 33), .x 34),
  (.idx (.x 23) (.i .i64 (.ofNat 2)), .x 35),
  (.conv 3 (.x 35), .x 36),
  (.bin .shl (.x 36) (.i .u64 (.ofNat 8)), .x 37),
  (.idx (.x 23) (.i .i64 (.ofNat 3)), .x 38),
  (.conv 3 (.x 38), .x 39),
  (.bin .or (.x 37) (.x 39), .x 40),
  (.bin .sub (.x 32) (.i .i64 (.ofNat 6)), .x 41),
  (.sub (.x 23) (some (.i .i64 (.ofNat 8))) (some (.x 41)), .x 42),
  (.sub (.x 23) (some (.x 32)) none, .x 43),
  (.conv 3 (.x 4), .x 44),
  (.bin .rem (.x 44) (.x 21), .x 45),
  (.sub (.x 20) none (some (.x 45)), .x 46),
  (.bin .neq (.x 46) (.s 0 0), .b false),
  (.len (.x 46), .x 47),
  (.bin .lss (.x 47) (.i .i64 (.ofNat 8)), .b true),
  (.eq 3 (.x 34) (.x 7), .b true),
  (.eq 3 (.x 40) (.x 8), .b true),
  (.eq 9 (.x 42) (.x 2), .b true),
  (.bin .eql (.x 43) (.x 3), .b true)]
noncomputable def tab6 : Tab := { tabk with hyp := hy6 }
theorem run6 : okB (call tab6 9000 3 [.x 0, .x 1, .x 2, .b true, .x 3, .x 4] ⟨H0 , 1, 0, 0⟩) = true := by kernel_rfl
def nu6 (t : Int) (id : Int) (c : List UInt8) (more : List UInt8) (cut : Int) : List Value := [.int .u8 (t),
  .int .u16 (id),
  St' c,
  St' more,
  .int .u16 (cut),
  .int .i64 ((c.length : Int)),
  .int .i64 ((more.length : Int)),
  .int .i64 (t),
  .int .i64 (id),
  .int .i64 (max ((c.length : Int)) 0),
  .int .i64 (-(max ((c.length : Int)) 0)),
  .int .u8 (t),
  .int .i64 (id / 256),
  .int .u8 (id / 256),
  .int .u8 (id % 256),
  .int .i64 (((c.length : Int)) / 256),
  .int .u8 ((((c.length : Int)) / 256) % 256),
  .int .u8 (((c.length : Int)) % 256),
  St' ([u8 1, u8 (t), u8 (id / 256), u8 (id % 256), u8 ((((c.length : Int)) / 256) % 256), u8 (((c.length : Int)) % 256), u8 6, u8 0]),
  St' (([u8 1, u8 (t), u8 (id / 256), u8 (id % 256), u8 ((((c.length : Int)) / 256) % 256), u8 (((c.length : Int)) % 256), u8 6, u8 0] ++ c)),
  St' (([u8 1, u8 (t), u8 (id / 256), u8 (id % 256), u8 ((((c.length : Int)) / 256) % 256), u8 (((c.length : Int)) % 256), u8 6, u8 0] ++ (c ++ [u8 0, u8 0, u8 0, u8 0, u8 0, u8 0]))),
  .int .i64 ((c.length : Int) + 14),
  .int .i64 (((c.length : Int) + 14) % 8),
  St' (([u8 1, u8 (t), u8 (id / 256), u8 (id % 256), u8 ((((c.length : Int)) / 256) % 256), u8 (((c.length : Int)) % 256), u8 6, u8 0] ++ (c ++ ([u8 0, u8 0, u8 0, u8 0, u8 0, u8 0] ++ more)))),
  .int .i64 ((c.length : Int) + (more.length : Int) + 14),
  .int .u8 ((((c.length : Int)) / 256) % 256),
  .int .i64 ((((c.length : Int)) / 256) % 256),
  .int .i64 (((((c.length : Int)) / 256) % 256) * 256),
  .int .i64 (8 + (((((c.length : Int)) / 256) % 256) * 256)),
  .int .u8 (((c.length : Int)) % 256),
  .int .i64 (((c.length : Int)) % 256),
  .int .i64 ((8 + (((((c.length : Int)) / 256) % 256) * 256)) + (((c.length : Int)) % 256)),
  .int .i64 (((8 + (((((c.length : Int)) / 256) % 256) * 256)) + (((c.length : Int)) % 256)) + 6),
  .int .u8 (t),
  .int .i64 (t),
  .int .u8 (id / 256),
  .int .i64 (id / 256),
  .int .i64 ((id / 256) * 256),
  .int .u8 (id % 256),
  .int .i64 (id % 256),
  .int .i64 (((id / 256) * 256) + (id % 256)),
  .int .i64 ((((8 + (((((c.length : Int)) / 256) % 256) * 256)) + (((c.length : Int)) % 256)) + 6) - 6),
  St' c,
  St' more,
  .int .i64 (cut),
  .int .i64 (cut % ((c.length : Int) + 14)),
  St' ((List.take (cut % ((c.length : Int) + 14)).toNat (([u8 1, u8 (t), u8 (id / 256), u8 (id % 256), u8 ((((c.length : Int)) / 256) % 256), u8 (((c.length : Int)) % 256), u8 6, u8 0] ++ (c ++ [u8 0, u8 0, u8 0, u8 0, u8 0, u8 0]))))),
  .int .i64 ((cut % ((c.length : Int) + 14)))]
theorem one6 (t : Int) (id : Int) (c : List UInt8) (more : List UInt8) (cut : Int) : ∀ j, (nuL (nu6 t id c more cut) j).oneCell' = true := nuL_one (l := nu6 t id c more cut) rfl
set_option maxHeartbeats 2000000 in
theorem hyOk6 (t : Int) (id : Int) (c : List UInt8) (more : List UInt8) (cut : Int) (b0 : 0 ≤ t) (b1 : t ≤ 255) (b2 : 0 ≤ id) (b3 : id ≤ 65535) (b4 : c.length ≤ 9223372036854775807) (b5 : more.length ≤ 9223372036854775807) (b6 : 0 ≤ cut) (b7 : cut ≤ 65535) (h0 : ¬ (2000 < (c.length : Int))) (h1 : ¬ (200 < (more.length : Int))) (h2 : ¬ (t = 0)) (h3 : ¬ ((-(max ((c.length : Int)) 0)) % 8 = 0)) (h4 : ¬ ((-(max ((c.length : Int)) 0)) % 8 = 1)) (h5 : ¬ ((-(max ((c.length : Int)) 0)) % 8 = 2)) (h6 : ¬ ((-(max ((c.length : Int)) 0)) % 8 = 3)) (h7 : ¬ ((-(max ((c.length : Int)) 0)) % 8 = 4)) (h8 : ¬ ((-(max ((c.length : Int)) 0)) % 8 = 5)) (h9 : (-(max ((c.length : Int)) 0)) % 8 = 6) (h21 : (cut % ((c.length : Int) + 14)) = 0) : ∀ k r, (k, r) ∈ hy6 → HOk (cx (nuL (nu6 t id c more cut)) (one6 t id c more cut) 0 laidE laidE_stab) k r := by
  have := Int.emod_nonneg cut (show ((c.length : Int) + 14) ≠ 0 by omega); have := Int.emod_lt_of_pos cut (show 0 < ((c.length : Int) + 14) by omega)
  unfold hy6
  refine hcons (kLenE (isX rfl) (denX rfl) (by first | omega | (simp only [List.length_append, List.length_cons, List.length_nil, List.length_take, List.length_drop, Int.natCast_add] at *; omega))) ?_
  refine hcons (kGt (isX rfl) (isZ (m := 2000) rfl) (decide_eq_false (by omega))) ?_
  refine hcons (kLenE (isX rfl) (denX rfl) (by first | omega | (simp only [List.length_append, List.length_cons, List.length_nil, List.length_take, List.length_drop, Int.natCast_add] at *; omega))) ?_
  refine hcons (kGt (isX rfl) (isZ (m := 200) rfl) (decide_eq_false (by omega))) ?_
  refine hcons (kEqI (isX rfl) (isZ (m := 0) rfl) (decide_eq_false (by omega))) ?_
  refine hcons (kConvF (isX rfl) tu3 (denX rfl) (fI64 (by omega) (by omega))) ?_
  refine hcons (kConvF (isX rfl) tu3 (denX rfl) (fI64 (by omega) (by omega))) ?_
  refine hcons (kMax (isX rfl) (isZ (m := 0) rfl) (denX rfl) rfl) ?_
  refine hcons (kNeg (isX rfl) (denX rfl) rfl (fI64 (by omega) (by omega))) ?_
  refine hcons (kAndG 3 8 rfl (by decide) (isX rfl) (isZ (m := 7) rfl) (denZ (m := 6) rfl) (fI64 (by omega) (by omega)) rfl (by omega) (fI64 (by omega) (by omega))) ?_
  refine hcons (kGe (isX rfl) (isZ (m := 1) rfl) (decide_eq_true (by omega))) ?_
  refine hcons (kLe (isX rfl) (isZ (m := 255) rfl) (decide_eq_true (by omega))) ?_
  refine hcons (kGe (isX rfl) (isZ (m := 0) rfl) (decide_eq_true (by omega))) ?_
  refine hcons (kLe (isX rfl) (isZ (m := 65535) rfl) (decide_eq_true (by omega))) ?_
  refine hcons (kLe (isX rfl) (isZ (m := 65535) rfl) (decide_eq_true (by omega))) ?_
  refine hcons (kConvF (isX rfl) tu5 (denX rfl) (fU8 (by omega) (by omega))) ?_
  refine hcons (kShrM 8 256 rfl (isX rfl) (isZ (m := 8) rfl) (denX rfl) rfl (by decide) (by omega) rfl) ?_
  refine hcons (kConvF (isX rfl) tu5 (denX rfl) (fU8 (by omega) (by omega))) ?_
  refine hcons (kConv8 (isX rfl) tu5 (denX rfl) rfl) ?_
  refine hcons (kShrM 8 256 rfl (isX rfl) (isZ (m := 8) rfl) (denX rfl) rfl (by decide) (by omega) rfl) ?_
  refine hcons (kConv8 (isX rfl) tu5 (denX rfl) rfl) ?_
  refine hcons (kConv8 (isX rfl) tu5 (denX rfl) rfl) ?_
  refine hcons (kBytesB (bs := [u8 1, u8 (t), u8 (id / 256), u8 (id % 256), u8 ((((c.length : Int)) / 256) % 256), u8 (((c.length : Int)) % 256), u8 6, u8 0]) (.cons (isB8 (isZ (m := 1) rfl) (by omega) (by omega)) (.cons (isB8 (isX rfl) (by omega) (by omega)) (.cons (isB8 (isX rfl) (by omega) (by omega)) (.cons (isB8 (isX rfl) (by omega) (by omega)) (.cons (isB8 (isX rfl) (by omega) (by omega)) (.cons (isB8 (isX rfl) (by omega) (by omega)) (.cons (isB8 (isZ (m := 6) rfl) (by omega) (by omega)) (.cons (isB8 (isZ (m := 0) rfl) (by omega) (by omega)) .nil)))))))) (denX rfl)) ?_
  refine hcons (kCat (isX rfl) (isX rfl) (denX rfl) (by first | rfl | (simp only [List.append_assoc, List.cons_append, List.nil_append, List.append_nil]; done)) (by first | omega | (simp only [List.length_append, List.length_cons, List.length_nil, List.length_take, List.length_drop, Int.natCast_add] at *; omega))) ?_
  refine hcons (kCat (isX rfl) (isSx (l := [u8 0, u8 0, u8 0, u8 0, u8 0, u8 0]) 6 0 rfl) (denX rfl) (by first | rfl | (simp only [List.append_assoc, List.cons_append, List.nil_append, List.append_nil]; done)) (by first | omega | (simp only [List.length_append, List.length_cons, List.length_nil, List.length_take, List.length_drop, Int.natCast_add] at *; omega))) ?_
  refine hcons (kLenE (isX rfl) (denX rfl) (by first | omega | (simp only [List.length_append, List.length_cons, List.length_nil, List.length_take, List.length_drop, Int.natCast_add] at *; omega))) ?_
  refine hcons (kLt (isX rfl) (isZ (m := 8) rfl) (decide_eq_false (by omega))) ?_
  refine hcons (kRem (isX rfl) (isZ (m := 8) rfl) (denX rfl) (by omega) (by omega) rfl) ?_
  refine hcons (kNeI (isX rfl) (isZ (m := 0) rfl) (neF (by omega))) ?_
  refine hcons (kCat (isX rfl) (isX rfl) (denX rfl) (by first | rfl | (simp only [List.append_assoc, List.cons_append, List.nil_append, List.append_nil]; done)) (by first | omega | (simp only [List.length_append, List.length_cons, List.length_nil, List.length_take, List.length_drop, Int.natCast_add] at *; omega))) ?_
  refine hcons (kNeS (isX rfl) (isSx (l := ([] : List UInt8)) 0 0 rfl) (bnT (by first | exact nilT (by first | omega | (simp only [List.length_append, List.length_cons, List.length_nil, List.length_take, List.length_drop, Int.natCast_add] at *; omega)) | exact nilF (by first | omega | (simp only [List.length_append, List.length_cons, List.length_nil, List.length_take, List.length_drop, Int.natCast_add] at *; omega)) | exact nilT' (by first | omega | (simp only [List.length_append, List.length_cons, List.length_nil, List.length_take, List.length_drop, Int.natCast_add] at *; omega)) | exact nilF' (by first | omega | (simp only [List.length_append, List.length_cons, List.length_nil, List.length_take, List.length_drop, Int.natCast_add] at *; omega))))) ?_
  refine hcons (kIdxE (i := 0) (isX rfl) (isZ (m := 0) rfl) (denZ (m := 1) rfl) rfl (by first | omega | (simp only [List.length_append, List.length_cons, List.length_nil, List.length_take, List.length_drop, Int.natCast_add] at *; omega)) (bt_at rfl (by omega) (by omega))) ?_
  refine hcons (kLenE (isX rfl) (denX rfl) (by first | omega | (simp only [List.length_append, List.length_cons, List.length_nil, List.length_take, List.length_drop, Int.natCast_add] at *; omega))) ?_
  refine hcons (kLt (isX rfl) (isZ (m := 8) rfl) (decide_eq_false (by omega))) ?_
  refine hcons (kIdxE (i := 4) (isX rfl) (isZ (m := 4) rfl) (denX rfl) rfl (by first | omega | (simp only [List.length_append, List.length_cons, List.length_nil, List.length_take, List.length_drop, Int.natCast_add] at *; omega)) (bt_at rfl (by omega) (by omega))) ?_
  refine hcons (kConvF (isX rfl) tu3 (denX rfl) (fI64 (by omega) (by omega))) ?_
  refine hcons (kShlM 8 256 rfl (isX rfl) (isZ (m := 8) rfl) (denX rfl) rfl (by decide) rfl (fI64 (by omega) (by omega))) ?_
  refine hcons (kAdd (isZ (m := 8) rfl) (isX rfl) (denX rfl) rfl (fI64 (by omega) (by omega))) ?_
  refine hcons (kIdxE (i := 5) (isX rfl) (isZ (m := 5) rfl) (denX rfl) rfl (by first | omega | (simp only [List.length_append, List.length_cons, List.length_nil, List.length_take, List.length_drop, Int.natCast_add] at *; omega)) (bt_at rfl (by omega) (by omega))) ?_
  refine hcons (kConvF (isX rfl) tu3 (denX rfl) (fI64 (by omega) (by omega))) ?_
  refine hcons (kAdd (isX rfl) (isX rfl) (denX rfl) rfl (fI64 (by omega) (by omega))) ?_
  refine hcons (kIdxE (i := 6) (isX rfl) (isZ (m := 6) rfl) (denZ (m := 6) rfl) rfl (by first | omega | (simp only [List.length_append, List.length_cons, List.length_nil, List.length_take, List.length_drop, Int.natCast_add] at *; omega)) (bt_at rfl (by omega) (by omega))) ?_
  refine hcons (kAdd (isX rfl) (isZ (m := 6) rfl) (denX rfl) rfl (fI64 (by omega) (by omega))) ?_
  refine hcons (kLt (isX rfl) (isX rfl) (decide_eq_false (by omega))) ?_
  refine hcons (kIdxE (i := 1) (isX rfl) (isZ (m := 1) rfl) (denX rfl) rfl (by first | omega | (simp only [List.length_append, List.length_cons, List.length_nil, List.length_take, List.length_drop, Int.natCast_add] at *; omega)) (bt_at rfl (by omega) (by omega))) ?_
  refine hcons (kEqI (isX rfl) (isZ (m := 0) rfl) (decide_eq_false (by omega))) ?_
  refine hcons (kConvF (isX rfl) tu3 (denX rfl) (fI64 (by omega) (by omega))) ?_
  refine hcons (kIdxE (i := 2) (isX rfl) (isZ (m := 2) rfl) (denX rfl) rfl (by first | omega | (simp only [List.length_append, List.length_cons, List.length_nil, List.length_take, List.length_drop, Int.natCast_add] at *; omega)) (bt_at rfl (by omega) (by omega))) ?_
  refine hcons (kConvF (isX rfl) tu3 (denX rfl) (fI64 (by omega) (by omega))) ?_
  refine hcons (kShlM 8 256 rfl (isX rfl) (isZ (m := 8) rfl) (denX rfl) rfl (by decide) rfl (fI64 (by omega) (by omega))) ?_
  refine hcons (kIdxE (i := 3) (isX rfl) (isZ (m := 3) rfl) (denX rfl) rfl (by first | omega | (simp only [List.length_append, List.length_cons, List.length_nil, List.length_take, List.length_drop, Int.natCast_add] at *; omega)) (bt_at rfl (by omega) (by omega))) ?_
  refine hcons (kConvF (isX rfl) tu3 (denX rfl) (fI64 (by omega) (by omega))) ?_
  refine hcons (kOrM 8 256 rfl (isX rfl) (isX rfl) (denX rfl) (by omega) (by omega) (fI64 (by omega) (by omega)) (fI64 (by omega) (by omega)) (by omega) (by omega) rfl (fI64 (by omega) (by omega))) ?_
  refine hcons (kSub (isX rfl) (isZ (m := 6) rfl) (denX rfl) rfl (fI64 (by omega) (by omega))) ?_
  refine hcons (kCut (isX rfl) (.inr ⟨_, _, rfl, (isZ (m := 8) rfl)⟩) (.inr ⟨_, _, rfl, (isX rfl)⟩) (p := [u8 1, u8 (t), u8 (id / 256), u8 (id % 256), u8 ((((c.length : Int)) / 256) % 256), u8 (((c.length : Int)) % 256), u8 6, u8 0]) (m := c) (q := ([u8 0, u8 0, u8 0, u8 0, u8 0, u8 0] ++ more)) (by first | rfl | (simp only [List.append_assoc, List.cons_append, List.nil_append, List.append_nil]; done)) (by first | omega | (simp only [List.length_append, List.length_cons, List.length_nil, List.length_take, List.length_drop, Int.natCast_add] at *; omega)) (by first | omega | (simp only [List.length_append, List.length_cons, List.length_nil, List.length_take, List.length_drop, Int.natCast_add] at *; omega)) (denX rfl)) ?_
  refine hcons (kCut (isX rfl) (.inr ⟨_, _, rfl, (isX rfl)⟩) (.inl ⟨rfl, rfl⟩) (p := ([u8 1, u8 (t), u8 (id / 256), u8 (id % 256), u8 ((((c.length : Int)) / 256) % 256), u8 (((c.length : Int)) % 256), u8 6, u8 0] ++ (c ++ [u8 0, u8 0, u8 0, u8 0, u8 0, u8 0]))) (m := more) (q := ([] : List UInt8)) (by first | rfl | (simp only [List.append_assoc, List.cons_append, List.nil_append, List.append_nil]; done)) (by first | omega | (simp only [List.length_append, List.length_cons, List.length_nil, List.length_take, List.length_drop, Int.natCast_add] at *; omega)) (by first | omega | (simp only [List.length_append, List.length_cons, List.length_nil, List.length_take, List.length_drop, Int.natCast_add] at *; omega)) (denX rfl)) ?_
  refine hcons (kConvF (isX rfl) tu3 (denX rfl) (fI64 (by omega) (by omega))) ?_
  refine hcons (kRem (isX rfl) (isX rfl) (denX rfl) (by omega) (by omega) rfl) ?_
  refine hcons (kTake (isX rfl) (isX rfl) (by first | omega | (simp only [List.length_append, List.length_cons, List.length_nil, List.length_take, List.length_drop, Int.natCast_add] at *; omega)) (by first | omega | (simp only [List.length_append, List.length_cons, List.length_nil, List.length_take, List.length_drop, Int.natCast_add] at *; omega)) (denX rfl)) ?_
  refine hcons (kNeS (isX rfl) (isSx (l := ([] : List UInt8)) 0 0 rfl) (bnF (by first | exact nilT (by first | omega | (simp only [List.length_append, List.length_cons, List.length_nil, List.length_take, List.length_drop, Int.natCast_add] at *; omega)) | exact nilF (by first | omega | (simp only [List.length_append, List.length_cons, List.length_nil, List.length_take, List.length_drop, Int.natCast_add] at *; omega)) | exact nilT' (by first | omega | (simp only [List.length_append, List.length_cons, List.length_nil, List.length_take, List.length_drop, Int.natCast_add] at *; omega)) | exact nilF' (by first | omega | (simp only [List.length_append, List.length_cons, List.length_nil, List.length_take, List.length_drop, Int.natCast_add] at *; omega))))) ?_
  refine hcons (kLenE (isX rfl) (denX rfl) (by first | omega | (simp only [List.length_append, List.length_cons, List.length_nil, List.length_take, List.length_drop, Int.natCast_add] at *; omega))) ?_
  refine hcons (kLt (isX rfl) (isZ (m := 8) rfl) (decide_eq_true (by omega))) ?_
  refine hcons (kEqT (isX rfl) (isX rfl) tu3 (decide_eq_true (by omega))) ?_
  refine hcons (kEqT (isX rfl) (isX rfl) tu3 (decide_eq_true (by omega))) ?_
  refine hcons (kEqTS (isX rfl) (isX rfl) tu9 (decide_eq_true rfl)) ?_
  refine hcons (kEqS (isX rfl) (isX rfl) (decide_eq_true rfl)) ?_
  exact hnil
theorem path6 (t : Int) (id : Int) (c : List UInt8) (more : List UInt8) (cut : Int) (b0 : 0 ≤ t) (b1 : t ≤ 255) (b2 : 0 ≤ id) (b3 : id ≤ 65535) (b4 : c.length ≤ 9223372036854775807) (b5 : more.length ≤ 9223372036854775807) (b6 : 0 ≤ cut) (b7 : cut ≤ 65535) (h0 : ¬ (2000 < (c.length : Int))) (h1 : ¬ (200 < (more.length : Int))) (h2 : ¬ (t = 0)) (h3 : ¬ ((-(max ((c.length : Int)) 0)) % 8 = 0)) (h4 : ¬ ((-(max ((c.length : Int)) 0)) % 8 = 1)) (h5 : ¬ ((-(max ((c.length : Int)) 0)) % 8 = 2)) (h6 : ¬ ((-(max ((c.length : Int)) 0)) % 8 = 3)) (h7 : ¬ ((-(max ((c.length : Int)) 0)) % 8 = 4)) (h8 : ¬ ((-(max ((c.length : Int)) 0)) % 8 = 5)) (h9 : (-(max ((c.length : Int)) 0)) % 8 = 6) (h21 : (cut % ((c.length : Int) + 14)) = 0) (w : World) (hl : laidE w) : Calls Try.prog 3 #[.int .u8 t, .int .u16 id, St' c, .bool true, St' more, .int .u16 cut] w fun e w' => e = .returned (.bool true) ∧ Go.AX.Below w.heap.size w w' := by
  obtain ⟨fi, hfi, hb⟩ : ∃ fi, tabk.fn.get 3 = some fi ∧ fi.body.isSome = true := ⟨_, rfl, by kernel_rfl⟩
  exact runP (tb := tab6) ((tabkOk (nuL (nu6 t id c more cut)) (one6 t id c more cut)).hyps (hyOk6 t id c more cut b0 b1 b2 b3 b4 b5 b6 b7 h0 h1 h2 h3 h4 h5 h6 h7 h8 h9 h21)) rfl hfi hb (run6 ) (args := [.int .u8 t, .int .u16 id, St' c, .bool true, St' more, .int .u16 cut]) (by simp only [RelL, Rel]; exact ⟨_, _, rfl, rfl, ⟨_, _, rfl, rfl, ⟨_, _, rfl, rfl, ⟨_, _, rfl, rfl, ⟨_, _, rfl, rfl, ⟨_, _, rfl, rfl, rfl⟩⟩⟩⟩⟩⟩) w hl
def hy7 : List (HK × AV) := [(.len (.x 2), .x 5),
  (.bin .gtr (.x 5) (.i .i64 (.ofNat 2000)), .b false),
  (.len (.x 3), .x 6),
  (.bin .gtr (.x 6) (.i .i64 (.ofNat 200)), .b false),
  (.bin .eql (.x 0) (.i .u8 (.ofNat 0)), .b false),
  (.conv 3 (.x 0), .x 7),
  (.conv 3 (.x 1), .x 8),
  (.mm true (.x 5) (.i .i64 (.ofNat 0)), .x 9),
  (.un .neg (.x 9), .x 10),
  (.bin .and (.x 10) (.i .i64 (.ofNat 7)), .i .i64 (.ofNat 6)),
  (.bin .geq (.x 7) (.i .i64 (.ofNat 1)), .b true),
  (.bin .leq (.x 7) (.i .i64 (.ofNat 255)), .b true),
  (.bin .geq (.x 8) (.i .i64 (.ofNat 0)), .b true),
  (.bin .leq (.x 8) (.i .i64 (.ofNat 65535)), .b true),
  (.bin .leq (.x 5) (.i .i64 (.ofNat 65535)), .b true),
  (.conv 5 (.x 7), .x 11),
  (.bin .shr (.x 8) (.i .u64 (.ofNat 8)), .x 12),
  (.conv 5 (.x 12), .x 13),
  (.conv 5 (.x 8), .x 14),
  (.bin .shr (.x 5) (.i .u64 (.ofNat 8)), .x 15),
  (.conv 5 (.x 15), .x 16),
  (.conv 5 (.x 5), .x 17),
  (.bytes [.i .u8 (.ofNat 1), .x 11, .x 13, .x 14, .x 16, .x 17, .i .u8 (.ofNat 6), .i .u8 (.ofNat 0)], .x 18),
  (.bin .add (.x 18) (.x 2), .x 19),
  (.bin .add (.x 19) (.s 6 0), .x 20),
  (.len (.x 20), .x 21),
  (.bin .lss (.x 21) (.i .i64 (.ofNat 8)), .b false),
  (.bin .rem (.x 21) (.i .i64 (.ofNat 8)), .x 22),
  (.bin .neq (.x 22) (.i .i64 (.ofNat 0)), .b false),
  (.bin .add (.x 20) (.x 3), .x 23),
  (.bin .neq (.x 23) (.s 0 0), .b true),
  (.idx (.x 23) (.i .i64 (.ofNat 0)), .i .u8 (.ofNat 1)),
  (.len (.x 23), .x 24),
  (.bin .lss (.x 24) (.i .i64 (.ofNat 8)), .b false),
  (.idx (.x 23) (.i .i64 (.ofNat 4)), .x 25),
  (.conv 3 (.x 25), .x 26),
  (.bin .shl (.x 26) (.i .u64 (.ofNat 8)), .x 27),
  (.bin .add (.i .i64 (.ofNat 8)) (.x 27), .x 28),
  (.idx (.x 23) (.i .i64 (.ofNat 5)), .x 29),
  (.conv 3 (.x 29), .x 30),
  (.bin .add (.x 28) (.x 30), .x 31),
  (.idx (.x 23) (.i .i64 (.ofNat 6)), .i .u8 (.ofNat 6)),
  (.bin .add (.x 31) (.i .i64 (.ofNat 6)), .x 32),
  (.bin .lss (.x 24) (.x 32), .b false),
  (.idx (.x 23) (.i .i64 (.ofNat 1)), .x 33),
  (.bin .eql (.x 33) (.i .u8 (.ofNat 0)), .b false),
  (.conv 3 (.x 33), .x 34),
  (.idx (.x 23) (.i .i64 (.ofNat 2)), .x 35),
  (.conv 3 (.x 35), .x 36),
  (.bin .shl (.x 36) (.i .u64 (.ofNat 8)), .x 37),
  (.idx (.x 23) (.i .i64 (.ofNat 3)), .x 38),
  (.conv 3 (.x 38), .x 39),
  (.bin .or (.x 37) (.x 39), .x 40),
  (.bin .sub (.x 32) (.i .i64 (.ofNat 6)), .x 41),
  (.sub (.x 23) (some (.i .i64 (.ofNat 8))) (some (.x 41)), .x 42),
  (.sub (.x 23) (some (.x 32)) none, .x 43),
  (.conv 3 (.x 4), .x 44),
  (.bin .rem (.x 44) (.x 21), .x 45),
  (.sub (.x 20) none (some (.x 45)), .x 46),
  (.bin .neq (.x 46) (.s 0 0), .b true),
  (.idx (.x 46) (.i .i64 (.ofNat 0)), .i .u8 (.ofNat 1)),
  (.len (.x 46), .x 47),
  (.bin .lss (.x 47) (.i .i64 (.ofNat 8)), .b true),
  (.eq 3 (.x 34) (.x 7), .b true),
  (.eq 3 (.x 40) (.x 8), .b true),
  (.eq 9 (.x 42) (.x 2), .b true),
  (.bin .eql (.x 43) (.x 3), .b true)]
noncomputable def tab7 : Tab := { tabk with hyp := hy7 }
theorem run7 : okB (call tab7 9000 3 [.x 0, .x 1, .x 2, .b true, .x 3, .x 4] ⟨H0 , 1, 0, 0⟩) = true := by kernel_rfl
def nu7 (t : Int) (id : Int) (c : List UInt8) (more : List UInt8) (cut : Int) : List Value := [.int .u8 (t),
  .int .u16 (id),
  St' c,
  St' more,
  .int .u16 (cut),
  .int .i64 ((c.length : Int)),
  .int .i64 ((more.length : Int)),
  .int .i64 (t),
  .int .i64 (id),
  .int .i64 (max ((c.length : Int)) 0),
  .int .i64 (-(max ((c.length : Int)) 0)),
  .int .u8 (t),
  .int .i64 (id / 256),
  .int .u8 (id / 256),
  .int .u8 (id % 256),
  .int .i64 (((c.length : Int)) / 256),
  .int .u8 ((((c.length : Int)) / 256) % 256),
  .int .u8 (((c.length : Int)) % 256),
  St' ([u8 1, u8 (t), u8 (id / 256), u8 (id % 256), u8 ((((c.length : Int)) / 256) % 256), u8 (((c.length : Int)) % 256), u8 6, u8 0]),
  St' (([u8 1, u8 (t), u8 (id / 256), u8 (id % 256), u8 ((((c.length : Int)) / 256) % 256), u8 (((c.length : Int)) % 256), u8 6, u8 0] ++ c)),
  St' (([u8 1, u8 (t), u8 (id / 256), u8 (id % 256), u8 ((((c.length : Int)) / 256) % 256), u8 (((c.length : Int)) % 256), u8 6, u8 0] ++ (c ++ [u8 0, u8 0, u8 0, u8 0, u8 0, u8 0]))),
  .int .i64 ((c.length : Int) + 14),
  .int .i64 (((c.length : Int) + 14) % 8),
  St' (([u8 1, u8 (t), u8 (id / 256), u8 (id % 256), u8 ((((c.length : Int)) / 256) % 256), u8 (((c.length : Int)) % 256), u8 6, u8 0] ++ (c ++ ([u8 0, u8 0, u8 0, u8 0, u8 0, u8 0] ++ more)))),
  .int .i64 ((c.length : Int) + (more.length : Int) + 14),
  .int .u8 ((((c.length : Int)) / 256) % 256),
  .int .i64 ((((c.length : Int)) / 256) % 256),
  .int .i64 (((((c.length : Int)) / 256) % 256) * 256),
  .int .i64 (8 + (((((c.length : Int)) / 256) % 256) * 256)),
  .int .u8 (((c.length : Int)) % 256),
  .int .i64 (((c.length : Int)) % 256),
  .int .i64 ((8 + (((((c.length : Int)) / 256) % 256) * 256)) + (((c.length : Int)) % 256)),
  .int .i64 (((8 + (((((c.length : Int)) / 256) % 256) * 256)) + (((c.length : Int)) % 256)) + 6),
  .int .u8 (t),
  .int .i64 (t),
  .int .u8 (id / 256),
  .int .i64 (id / 256),
  .int .i64 ((id / 256) * 256),
  .int .u8 (id % 256),
  .int .i64 (id % 256),
  .int .i64 (((id / 256) * 256) + (id % 256)),
  .int .i64 ((((8 + (((((c.length : Int)) / 256) % 256) * 256)) + (((c.length : Int)) % 256)) + 6) - 6),
  St' c,
  St' more,
  .int .i64 (cut),
  .int .i64 (cut % ((c.length : Int) + 14)),
  St' ((List.take (cut % ((c.length : Int) + 14)).toNat (([u8 1, u8 (t), u8 (id / 256), u8 (id % 256), u8 ((((c.length : Int)) / 256) % 256), u8 (((c.length : Int)) % 256), u8 6, u8 0] ++ (c ++ [u8 0, u8 0, u8 0, u8 0, u8 0, u8 0]))))),
  .int .i64 ((cut % ((c.length : Int) + 14)))]
theorem one7 (t : Int) (id : Int) (c : List UInt8) (more : List UInt8) (cut : Int) : ∀ j, (nuL (nu7 t id c more cut) j).oneCell' = true := nuL_one (l := nu7 t id c more cut) rfl
set_option maxHeartbeats 2000000 in
theorem hyOk7 (t : Int) (id : Int) (c : List UInt8) (more : List UInt8) (cut : Int) (b0 : 0 ≤ t) (b1 : t ≤ 255) (b2 : 0 ≤ id) (b3 : id ≤ 65535) (b4 : c.length ≤ 9223372036854775807) (b5 : more.length ≤ 9223372036854775807) (b6 : 0 ≤ cut) (b7 : cut ≤ 65535) (h0 : ¬ (2000 < (c.length : Int))) (h1 : ¬ (200 < (more.length : Int))) (h2 : ¬ (t = 0)) (h3 : ¬ ((-(max ((c.length : Int)) 0)) % 8 = 0)) (h4 : ¬ ((-(max ((c.length : Int)) 0)) % 8 = 1)) (h5 : ¬ ((-(max ((c.length : Int)) 0)) % 8 = 2)) (h6 : ¬ ((-(max ((c.length : Int)) 0)) % 8 = 3)) (h7 : ¬ ((-(max ((c.length : Int)) 0)) % 8 = 4)) (h8 : ¬ ((-(max ((c.length : Int)) 0)) % 8 = 5)) (h9 : (-(max ((c.length : Int)) 0)) % 8 = 6) (h21 : ¬ ((cut % ((c.length : Int) + 14)) = 0)) (h22 : (cut % ((c.length : Int) + 14)) < 8) : ∀ k r, (k, r) ∈ hy7 → HOk (cx (nuL (nu7 t id c more cut)) (one7 t id c more cut) 0 laidE laidE_stab) k r := by
  have := Int.emod_nonneg cut (show ((c.length : Int) + 14) ≠ 0 by omega); have := Int.emod_lt_of_pos cut (show 0 < ((c.length : Int) + 14) by omega)
  unfold hy7
  refine hcons (kLenE (isX rfl) (denX rfl) (by first | omega | (simp only [List.length_append, List.length_cons, List.length_nil, List.length_take, List.length_drop, Int.natCast_add] at *; omega))) ?_
  refine hcons (kGt (isX rfl) (isZ (m := 2000) rfl) (decide_eq_false (by omega))) ?_
  refine hcons (kLenE (isX rfl) (denX rfl) (by first | omega | (simp only [List.length_append, List.length_cons, List.length_nil, List.length_take, List.length_drop, Int.natCast_add] at *; omega))) ?_
  refine hcons (kGt (isX rfl) (isZ (m := 200) rfl) (decide_eq_false (by omega))) ?_
  refine hcons (kEqI (isX rfl) (isZ (m := 0) rfl) (decide_eq_false (by omega))) ?_
  refine hcons (kConvF (isX rfl) tu3 (denX rfl) (fI64 (by omega) (by omega))) ?_
  refine hcons (kConvF (isX rfl) tu3 (denX rfl) (fI64 (by omega) (by omega))) ?_
  refine hcons (kMax (isX rfl) (isZ (m := 0) rfl) (denX rfl) rfl) ?_
  refine hcons (kNeg (isX rfl) (denX rfl) rfl (fI64 (by omega) (by omega))) ?_
  refine hcons (kAndG 3 8 rfl (by decide) (isX rfl) (isZ (m := 7) rfl) (denZ (m := 6) rfl) (fI64 (by omega) (by omega)) rfl (by omega) (fI64 (by omega) (by omega))) ?_
  refine hcons (kGe (isX rfl) (isZ (m := 1) rfl) (decide_eq_true (by omega))) ?_
  refine hcons (kLe (isX rfl) (isZ (m := 255) rfl) (decide_eq_true (by omega))) ?_
  refine hcons (kGe (isX rfl) (isZ (m := 0) rfl) (decide_eq_true (by omega))) ?_
  refine hcons (kLe (isX rfl) (isZ (m := 65535) rfl) (decide_eq_true (by omega))) ?_
  refine hcons (kLe (isX rfl) (isZ (m := 65535) rfl) (decide_eq_true (by omega))) ?_
  refine hcons (kConvF (isX rfl) tu5 (denX rfl) (fU8 (by omega) (by omega))) ?_
  refine hcons (kShrM 8 256 rfl (isX rfl) (isZ (m := 8) rfl) (denX rfl) rfl (by decide) (by omega) rfl) ?_
  refine hcons (kConvF (isX rfl) tu5 (denX rfl) (fU8 (by omega) (by omega))) ?_
  refine hcons (kConv8 (isX rfl) tu5 (denX rfl) rfl) ?_
  refine hcons (kShrM 8 256 rfl (isX rfl) (isZ (m := 8) rfl) (denX rfl) rfl (by decide) (by omega) rfl) ?_
  refine hcons (kConv8 (isX rfl) tu5 (denX rfl) rfl) ?_
  refine hcons (kConv8 (isX rfl) tu5 (denX rfl) rfl) ?_
  refine hcons (kBytesB (bs := [u8 1, u8 (t), u8 (id / 256), u8 (id % 256), u8 ((((c.length : Int)) / 256) % 256), u8 (((c.length : Int)) % 256), u8 6, u8 0]) (.cons (isB8 (isZ (m := 1) rfl) (by omega) (by omega)) (.cons (isB8 (isX rfl) (by omega) (by omega)) (.cons (isB8 (isX rfl) (by omega) (by omega)) (.cons (isB8 (isX rfl) (by omega) (by omega)) (.cons (isB8 (isX rfl) (by omega) (by omega)) (.cons (isB8 (isX rfl) (by omega) (by omega)) (.cons (isB8 (isZ (m := 6) rfl) (by omega) (by omega)) (.cons (isB8 (isZ (m := 0) rfl) (by omega) (by omega)) .nil)))))))) (denX rfl)) ?_
  refine hcons (kCat (isX rfl) (isX rfl) (denX rfl) (by first | rfl | (simp only [List.append_assoc, List.cons_append, List.nil_append, List.append_nil]; done)) (by first | omega | (simp only [List.length_append, List.length_cons, List.length_nil, List.length_take, List.length_drop, Int.natCast_add] at *; omega))) ?_
  refine hcons (kCat (isX rfl) (isSx (l := [u8 0, u8 0, u8 0, u8 0, u8 0, u8 0]) 6 0 rfl) (denX rfl) (by first | rfl | (simp only [List.append_assoc, List.cons_append, List.nil_append, List.append_nil]; done)) (by first | omega | (simp only [List.length_append, List.length_cons, List.length_nil, List.length_take, List.length_drop, Int.natCast_add] at *; omega))) ?_
  refine hcons (kLenE (isX rfl) (denX rfl) (by first | omega | (simp only [List.length_append, List.length_cons, List.length_nil, List.length_take, List.length_drop, Int.natCast_add] at *; omega))) ?_
  refine hcons (kLt (isX rfl) (isZ (m := 8) rfl) (decide_eq_false (by omega))) ?_
  refine hcons (kRem (isX rfl) (isZ (m := 8) rfl) (denX rfl) (by omega) (by omega) rfl) ?_
  refine hcons (kNeI (isX rfl) (isZ (m := 0) rfl) (neF (by omega))) ?_
  refine hcons (kCat (isX rfl) (isX rfl) (denX rfl) (by first | rfl | (simp only [List.append_assoc, List.cons_append, List.nil_append, List.append_nil]; done)) (by first | omega | (simp only [List.length_append, List.length_cons, List.length_nil, List.length_take, List.length_drop, Int.natCast_add] at *; omega))) ?_
  refine hcons (kNeS (isX rfl) (isSx (l := ([] : List UInt8)) 0 0 rfl) (bnT (by first | exact nilT (by first | omega | (simp only [List.length_append, List.length_cons, List.length_nil, List.length_take, List.length_drop, Int.natCast_add] at *; omega)) | exact nilF (by first | omega | (simp only [List.length_append, List.length_cons, List.length_nil, List.length_take, List.length_drop, Int.natCast_add] at *; omega)) | exact nilT' (by first | omega | (simp only [List.length_append, List.length_cons, List.length_nil, List.length_take, List.length_drop, Int.natCast_add] at *; omega)) | exact nilF' (by first | omega | (simp only [List.length_append, List.length_cons, List.length_nil, List.length_take, List.length_drop, Int.natCast_add] at *; omega))))) ?_
  refine hcons (kIdxE (i := 0) (isX rfl) (isZ (m := 0) rfl) (denZ (m := 1) rfl) rfl (by first | omega | (simp only [List.length_append, List.length_cons, List.length_nil, List.length_take, List.length_drop, Int.natCast_add] at *; omega)) (bt_at rfl (by omega) (by omega))) ?_
  refine hcons (kLenE (isX rfl) (denX rfl) (by first | omega | (simp only [List.length_append, List.length_cons, List.length_nil, List.length_take, List.length_drop, Int.natCast_add] at *; omega))) ?_
  refine hcons (kLt (isX rfl) (isZ (m := 8) rfl) (decide_eq_false (by omega))) ?_
  refine hcons (kIdxE (i := 4) (isX rfl) (isZ (m := 4) rfl) (denX rfl) rfl (by first | omega | (simp only [List.length_append, List.length_cons, List.length_nil, List.length_take, List.length_drop, Int.natCast_add] at *; omega)) (bt_at rfl (by omega) (by omega))) ?_
  refine hcons (kConvF (isX rfl) tu3 (denX rfl) (fI64 (by omega) (by omega))) ?_
  refine hcons (kShlM 8 256 rfl (isX rfl) (isZ (m := 8) rfl) (denX rfl) rfl (by decide) rfl (fI64 (by omega) (by omega))) ?_
  refine hcons (kAdd (isZ (m := 8) rfl) (isX rfl) (denX rfl) rfl (fI64 (by omega) (by omega))) ?_
  refine hcons (kIdxE (i := 5) (isX rfl) (isZ (m := 5) rfl) (denX rfl) rfl (by first | omega | (simp only [List.length_append, List.length_cons, List.length_nil, List.length_take, List.length_drop, Int.natCast_add] at *; omega)) (bt_at rfl (by omega) (by omega))) ?_
  refine hcons (kConvF (isX rfl) tu3 (denX rfl) (fI64 (by omega) (by omega))) ?_
  refine hcons (kAdd (isX rfl) (isX rfl) (denX rfl) rfl (fI64 (by omega) (by omega))) ?_
  refine hcons (kIdxE (i := 6) (isX rfl) (isZ (m := 6) rfl) (denZ (m := 6) rfl) rfl (by first | omega | (simp only [List.length_append, List.length_cons, List.length_nil, List.length_take, List.length_drop, Int.natCast_add] at *; omega)) (bt_at rfl (by omega) (by omega))) ?_
  refine hcons (kAdd (isX rfl) (isZ (m := 6) rfl) (denX rfl) rfl (fI64 (by omega) (by omega))) ?_
  refine hcons (kLt (isX rfl) (isX rfl) (decide_eq_false (by omega))) ?_
  refine hcons (kIdxE (i := 1) (isX rfl) (isZ (m := 1) rfl) (denX rfl) rfl (by first | omega | (simp only [List.length_append, List.length_cons, List.length_nil, List.length_take, List.length_drop, Int.natCast_add] at *; omega)) (bt_at rfl (by omega) (by omega))) ?_
  refine hcons (kEqI (isX rfl) (isZ (m := 0) rfl) (decide_eq_false (by omega))) ?_
  refine hcons (kConvF (isX rfl) tu3 (denX rfl) (fI64 (by omega) (by omega))) ?_
  refine hcons (kIdxE (i := 2) (isX rfl) (isZ (m := 2) rfl) (denX rfl) rfl (by first | omega | (simp only [List.length_append, List.length_cons, List.length_nil, List.length_take, List.length_drop, Int.natCast_add] at *; omega)) (bt_at rfl (by omega) (by omega))) ?_
  refine hcons (kConvF (isX rfl) tu3 (denX rfl) (fI64 (by omega) (by omega))) ?_
  refine hcons (kShlM 8 256 rfl (isX rfl) (isZ (m := 8) rfl) (denX rfl) rfl (by decide) rfl (fI64 (by omega) (by omega))) ?_
  refine hcons (kIdxE (i := 3) (isX rfl) (isZ (m := 3) rfl) (denX rfl) rfl (by first | omega | (simp only [List.length_append, List.length_cons, List.length_nil, List.length_take, List.length_drop, Int.natCast_add] at *; omega)) (bt_at rfl (by omega) (by omega))) ?_
  refine hcons (kConvF (isX rfl) tu3 (denX rfl) (fI64 (by omega) (by omega))) ?_
  refine hcons (kOrM 8 256 rfl (isX rfl) (isX rfl) (denX rfl) (by omega) (by omega) (fI64 (by omega) (by omega)) (fI64 (by omega) (by omega)) (by omega) (by omega) rfl (fI64 (by omega) (by omega))) ?_
  refine hcons (kSub (isX rfl) (isZ (m := 6) rfl) (denX rfl) rfl (fI64 (by omega) (by omega))) ?_
  refine hcons (kCut (isX rfl) (.inr ⟨_, _, rfl, (isZ (m := 8) rfl)⟩) (.inr ⟨_, _, rfl, (isX rfl)⟩) (p := [u8 1, u8 (t), u8 (id / 256), u8 (id % 256), u8 ((((c.length : Int)) / 256) % 256), u8 (((c.length : Int)) % 256), u8 6, u8 0]) (m := c) (q := ([u8 0, u8 0, u8 0, u8 0, u8 0, u8 0] ++ more)) (by first | rfl | (simp only [List.append_assoc, List.cons_append, List.nil_append, List.append_nil]; done)) (by first | omega | (simp only [List.length_append, List.length_cons, List.length_nil, List.length_take, List.length_drop, Int.natCast_add] at *; omega)) (by first | omega | (simp only [List.length_append, List.length_cons, List.length_nil, List.length_take, List.length_drop, Int.natCast_add] at *; omega)) (denX rfl)) ?_
  refine hcons (kCut (isX rfl) (.inr ⟨_, _, rfl, (isX rfl)⟩) (.inl ⟨rfl, rfl⟩) (p := ([u8 1, u8 (t), u8 (id / 256), u8 (id % 256), u8 ((((c.length : Int)) / 256) % 256), u8 (((c.length : Int)) % 256), u8 6, u8 0] ++ (c ++ [u8 0, u8 0, u8 0, u8 0, u8 0, u8 0]))) (m := more) (q := ([] : List UInt8)) (by first | rfl | (simp only [List.append_assoc, List.cons_append, List.nil_append, List.append_nil]; done)) (by first | omega | (simp only [List.length_append, List.length_cons, List.length_nil, List.length_take, List.length_drop, Int.natCast_add] at *; omega)) (by first | omega | (simp only [List.length_append, List.length_cons, List.length_nil, List.length_take, List.length_drop, Int.natCast_add] at *; omega)) (denX rfl)) ?_
  refine hcons (kConvF (isX rfl) tu3 (denX rfl) (fI64 (by omega) (by omega))) ?_
  refine hcons (kRem (isX rfl) (isX rfl) (denX rfl) (by omega) (by omega) rfl) ?_
  refine hcons (kTake (isX rfl) (isX rfl) (by first | omega | (simp only [List.length_append, List.length_cons, List.length_nil, List.length_take, List.length_drop, Int.natCast_add] at *; omega)) (by first | omega | (simp only [List.length_append, List.length_cons, List.length_nil, List.length_take, List.length_drop, Int.natCast_add] at *; omega)) (denX rfl)) ?_
  refine hcons (kNeS (isX rfl) (isSx (l := ([] : List UInt8)) 0 0 rfl) (bnT (by first | exact nilT (by first | omega | (simp only [List.length_append, List.length_cons, List.length_nil, List.length_take, List.length_drop, Int.natCast_add] at *; omega)) | exact nilF (by first | omega | (simp only [List.length_append, List.length_cons, List.length_nil, List.length_take, List.length_drop, Int.natCast_add] at *; omega)) | exact nilT' (by first | omega | (simp only [List.length_append, List.length_cons, List.length_nil, List.length_take, List.length_drop, Int.natCast_add] at *; omega)) | exact nilF' (by first | omega | (simp only [List.length_append, List.length_cons, List.length_nil, List.length_take, List.length_drop, Int.natCast_add] at *; omega))))) ?_
  refine hcons (kIdxE (i := 0) (isX rfl) (isZ (m := 0) rfl) (denZ (m := 1) rfl) rfl (by first | omega | (simp only [List.length_append, List.length_cons, List.length_nil, List.length_take, List.length_drop, Int.natCast_add] at *; omega)) ((bt_take (by omega)).trans (bt_at rfl (by omega) (by omega)))) ?_
  refine hcons (kLenE (isX rfl) (denX rfl) (by first | omega | (simp only [List.length_append, List.length_cons, List.length_nil, List.length_take, List.length_drop, Int.natCast_add] at *; omega))) ?_
  refine hcons (kLt (isX rfl) (isZ (m := 8) rfl) (decide_eq_true (by omega))) ?_
  refine hcons (kEqT (isX rfl) (isX rfl) tu3 (decide_eq_true (by omega))) ?_
  refine hcons (kEqT (isX rfl) (isX rfl) tu3 (decide_eq_true (by omega))) ?_
  refine hcons (kEqTS (isX rfl) (isX rfl) tu9 (decide_eq_true rfl)) ?_
  refine hcons (kEqS (isX rfl) (isX rfl) (decide_eq_true rfl)) ?_
  exact hnil
theorem path7 (t : Int) (id : Int) (c : List UInt8) (more : List UInt8) (cut : Int) (b0 : 0 ≤ t) (b1 : t ≤ 255) (b2 : 0 ≤ id) (b3 : id ≤ 65535) (b4 : c.length ≤ 9223372036854775807) (b5 : more.length ≤ 9223372036854775807) (b6 : 0 ≤ cut) (b7 : cut ≤ 65535) (h0 : ¬ (2000 < (c.length : Int))) (h1 : ¬ (200 < (more.length : Int))) (h2 : ¬ (t = 0)) (h3 : ¬ ((-(max ((c.length : Int)) 0)) % 8 = 0)) (h4 : ¬ ((-(max ((c.length : Int)) 0)) % 8 = 1)) (h5 : ¬ ((-(max ((c.length : Int)) 0)) % 8 = 2)) (h6 : ¬ ((-(max ((c.length : Int)) 0)) % 8 = 3)) (h7 : ¬ ((-(max ((c.length : Int)) 0)) % 8 = 4)) (h8 : ¬ ((-(max ((c.length : Int)) 0)) % 8 = 5)) (h9 : (-(max ((c.length : Int)) 0)) % 8 = 6) (h21 : ¬ ((cut % ((c.length : Int) + 14)) = 0)) (h22 : (cut % ((c.length : Int) + 14)) < 8) (w : World) (hl : laidE w) : Calls Try.prog 3 #[.int .u8 t, .int .u16 id, St' c, .bool true, St' more, .int .u16 cut] w fun e w' => e = .returned (.bool true) ∧ Go.AX.Below w.heap.size w w' := by
  obtain ⟨fi, hfi, hb⟩ : ∃ fi, tabk.fn.get 3 = some fi ∧ fi.body.isSome = true := ⟨_, rfl, by kernel_rfl⟩
  exact runP (tb := tab7) ((tabkOk (nuL (nu7 t id c more cut)) (one7 t id c more cut)).hyps (hyOk7 t id c more cut b0 b1 b2 b3 b4 b5 b6 b7 h0 h1 h2 h3 h4 h5 h6 h7 h8 h9 h21 h22)) rfl hfi hb (run7 ) (args := [.int .u8 t, .int .u16 id, St' c, .bool true, St' more, .int .u16 cut]) (by simp only [RelL, Rel]; exact ⟨_, _, rfl, rfl, ⟨_, _, rfl, rfl, ⟨_, _, rfl, rfl, ⟨_, _, rfl, rfl, ⟨_, _, rfl, rfl, ⟨_, _, rfl, rfl, rfl⟩⟩⟩⟩⟩⟩) w hl
def hy8 : List (HK × AV) := [(.len (.x 2), .x 5),
  (.bin .gtr (.x 5) (.i .i64 (.ofNat 2000)), .b false),
  (.len (.x 3), .x 6),
  (.bin .gtr (.x 6) (.i .i64 (.ofNat 200)), .b false),
  (.bin .eql (.x 0) (.i .u8 (.ofNat 0)), .b false),
  (.conv 3 (.x 0), .x 7),
  (.conv 3 (.x 1), .x 8),
  (.mm true (.x 5) (.i .i64 (.ofNat 0)), .x 9),
  (.un .neg (.x 9), .x 10),
  (.bin .and (.x 10) (.i .i64 (.ofNat 7)), .i .i64 (.ofNat 6)),
  (.bin .geq (.x 7) (.i .i64 (.ofNat 1)), .b true),
  (.bin .leq (.x 7) (.i .i64 (.ofNat 255)), .b true),
  (.bin .geq (.x 8) (.i .i64 (.ofNat 0)), .b true),
  (.bin .leq (.x 8) (.i .i64 (.ofNat 65535)), .b true),
  (.bin .leq (.x 5) (.i .i64 (.ofNat 65535)), .b true),
  (.conv 5 (.x 7), .x 11),
  (.bin .shr (.x 8) (.i .u64 (.ofNat 8)), .x 12),
  (.conv 5 (.x 12), .x 13),
  (.conv 5 (.x 8), .x 14),
  (.bin .shr (.x 5) (.i .u64 (.ofNat 8)), .x 15),
  (.conv 5 (.x 15), .x 16),
  (.conv 5 (.x 5), .x 17),
  (.bytes [.i .u8 (.ofNat 1), .x 11, .x 13, .x 14, .x 16, .x 17, .i .u8 (.ofNat 6), .i .u8 (.ofNat 0)], .x 18),
  (.bin .add (.x 18) (.x 2), .x 19),
  (.bin .add (.x 19) (.s 6 0), .x 20),
  (.len (.x 20), .x 21),
  (.bin .lss (.x 21) (.i .i64 (.ofNat 8)), .b false),
  (.bin .rem (.x 21) (.i .i64 (.ofNat 8)), .x 22),
  (.bin .neq (.x 22) (.i .i64 (.ofNat 0)), .b false),
  (.bin .add (.x 20) (.x 3), .x 23),
  (.bin .neq (.x 23) (.s 0 0), .b true),
  (.idx (.x 23) (.i .i64 (.ofNat 0)), .i .u8 (.ofNat 1)),
  (.len (.x 23), .x 24),
  (.bin .lss (.x 24) (.i .i64 (.ofNat 8)), .b false),
  (.idx (.x 23) (.i .i64 (.ofNat 4)), .x 25),
  (.conv 3 (.x 25), .x 26),
  (.bin .shl (.x 26) (.i .u64 (.ofNat 8)), .x 27),
  (.bin .add (.i .i64 (.ofNat 8)) (.x 27), .x 28),
  (.idx (.x 23) (.i .i64 (.ofNat 5)), .x 29),
  (.conv 3 (.x 29), .x 30),
  (.bin .add (.x 28) (.x 30), .x 31),
  (.idx (.x 23) (.i .i64 (.ofNat 6)), .i .u8 (.ofNat 6)),
  (.bin .add (.x 31) (.i .i64 (.ofNat 6)), .x 32),
  (.bin .lss (.x 24) (.x 32), .b false),
  (.idx (.x 23) (.i .i64 (.ofNat 1)), .x 33),
  (.bin .eql (.x 33) (.i .u8 (.ofNat 0)), .b false),
  (.conv 3 (.x 33), .x 34),
  (.idx (.x 23) (.i .i64 (.ofNat 2)), .x 35),
  (.conv 3 (.x 35), .x 36),
  (.bin .shl (.x 36) (.i .u64 (.ofNat 8)), .x 37),
  (.idx (.x 23) (.i .i64 (.ofNat 3)), .x 38),
  (.conv 3 (.x 38), .x 39),
  (.bin .or (.x 37) (.x 39), .x 40),
  (.bin .sub (.x 32) (.i .i64 (.ofNat 6)), .x 41),
  (.sub (.x 23) (some (.i .i64 (.ofNat 8))) (some (.x 41)), .x 42),
  (.sub (.x 23) (some (.x 32)) none, .x 43),
  (.conv 3 (.x 4), .x 44),
  (.bin .rem (.x 44) (.x 21), .x 45),
  (.sub (.x 20) none (some (.x 45)), .x 46),
  (.bin .neq (.x 46) (.s 0 0), .b true),
  (.idx (.x 46) (.i .i64 (.ofNat 0)), .i .u8 (.ofNat 1)),
  (.len (.x 46), .x 47),
  (.bin .lss (.x 47) (.i .i64 (.ofNat 8)), .b false),
  (.idx (.x 46) (.i .i64 (.ofNat 4)), .x 48),
  (.conv 3 (.x 48), .x 49),
  (.bin .shl (.x 49) (.i .u64 (.ofNat 8)), .x 50),
  (.bin .add (.i .i64 (.ofNat 8)) (.x 50), .x 51),
  (.idx (.x 46) (.i .i64 (.ofNat 5)), .x 52),
  (.conv 3 (.x 52), .x 53),
  (.bin .add (.x 51) (.x 53), .x 54),
  (.idx (.x 46) (.i .i64 (.ofNat 6)), .i .u8 (.ofNat 6)),
  (.bin .add (.x 54) (.i .i64 (.ofNat 6)), .x 55),
  (.bin .lss (.x 47) (.x 55), .b true),
  (.eq 3 (.x 34) (.x 7), .b true),
  (.eq 3 (.x 40) (.x 8), .b true),
  (.eq 9 (.x 42) (.x 2), .b true),
  (.bin .eql (.x 43) (.x 3), .b true)]
noncomputable def tab8 : Tab := { tabk with hyp := hy8 }
theorem run8 : okB (call tab8 9000 3 [.x 0, .x 1, .x 2, .b true, .x 3, .x 4] ⟨H0 , 1, 0, 0⟩) = true := by kernel_rfl
def nu8 (t : Int) (id : Int) (c : List UInt8) (more : List UInt8) (cut : Int) : List Value := [.int .u8 (t),
  .int .u16 (id),
  St' c,
  St' more,
  .int .u16 (cut),
  .int .i64 ((c.length : Int)),
  .int .i64 ((more.length : Int)),
  .int .i64 (t),
  .int .i64 (id),
  .int .i64 (max ((c.length : Int)) 0),
  .int .i64 (-(max ((c.length : Int)) 0)),
  .int .u8 (t),
  .int .i64 (id / 256),
  .int .u8 (id / 256),
  .int .u8 (id % 256),
  .int .i64 (((c.length : Int)) / 256),
  .int .u8 ((((c.length : Int)) / 256) % 256),
  .int .u8 (((c.length : Int)) % 256),
  St' ([u8 1, u8 (t), u8 (id / 256), u8 (id % 256), u8 ((((c.length : Int)) / 256) % 256), u8 (((c.length : Int)) % 256), u8 6, u8 0]),
  St' (([u8 1, u8 (t), u8 (id / 256), u8 (id % 256), u8 ((((c.length : Int)) / 256) % 256), u8 (((c.length : Int)) % 256), u8 6, u8 0] ++ c)),
  St' (([u8 1, u8 (t), u8 (id / 256), u8 (id % 256), u8 ((((c.length : Int)) / 256) % 256), u8 (((c.length : Int)) % 256), u8 6, u8 0] ++ (c ++ [u8 0, u8 0, u8 0, u8 0, u8 0, u8 0]))),
  .int .i64 ((c.length : Int) + 14),
  .int .i64 (((c.length : Int) + 14) % 8),
  St' (([u8 1, u8 (t), u8 (id / 256), u8 (id % 256), u8 ((((c.length : Int)) / 256) % 256), u8 (((c.length : Int)) % 256), u8 6, u8 0] ++ (c ++ ([u8 0, u8 0, u8 0, u8 0, u8 0, u8 0] ++ more)))),
  .int .i64 ((c.length : Int) + (more.length : Int) + 14),
  .int .u8 ((((c.length : Int)) / 256) % 256),
  .int .i64 ((((c.length : Int)) / 256) % 256),
  .int .i64 (((((c.length : Int)) / 256) % 256) * 256),
  .int .i64 (8 + (((((c.length : Int)) / 256) % 256) * 256)),
  .int .u8 (((c.length : Int)) % 256),
  .int .i64 (((c.length : Int)) % 256),
  .int .i64 ((8 + (((((c.length : Int)) / 256) % 256) * 256)) + (((c.length : Int)) % 256)),
  .int .i64 (((8 + (((((c.length : Int)) / 256) % 256) * 256)) + (((c.length : Int)) % 256)) + 6),
  .int .u8 (t),
  .int .i64 (t),
  .int .u8 (id / 256),
  .int .i64 (id / 256),
  .int .i64 ((id / 256) * 256),
  .int .u8 (id % 256),
  .int .i64 (id % 256),
  .int .i64 (((id / 256) * 256) + (id % 256)),
  .int .i64 ((((8 + (((((c.length : Int)) / 256) % 256) * 256)) + (((c.length : Int)) % 256)) + 6) - 6),
  St' c,
  St' more,
  .int .i64 (cut),
  .int .i64 (cut % ((c.length : Int) + 14)),
  St' ((List.take (cut % ((c.length : Int) + 14)).toNat (([u8 1, u8 (t), u8 (id / 256), u8 (id % 256), u8 ((((c.length : Int)) / 256) % 256), u8 (((c.length : Int)) % 256), u8 6, u8 0] ++ (c ++ [u8 0, u8 0, u8 0, u8 0, u8 0, u8 0]))))),
  .int .i64 ((cut % ((c.length : Int) + 14))),
  .int .u8 ((((c.length : Int)) / 256) % 256),
  .int .i64 ((((c.length : Int)) / 256) % 256),
  .int .i64 (((((c.length : Int)) / 256) % 256) * 256),
  .int .i64 (8 + (((((c.length : Int)) / 256) % 256) * 256)),
  .int .u8 (((c.length : Int)) % 256),
  .int .i64 (((c.length : Int)) % 256),
  .int .i64 ((8 + (((((c.length : Int)) / 256) % 256) * 256)) + (((c.length : Int)) % 256)),
  .int .i64 (((8 + (((((c.length : Int)) / 256) % 256) * 256)) + (((c.length : Int)) % 256)) + 6)]
theorem one8 (t : Int) (id : Int) (c : List UInt8) (more : List UInt8) (cut : Int) : ∀ j, (nuL (nu8 t id c more cut) j).oneCell' = true := nuL_one (l := nu8 t id c more cut) rfl
set_option maxHeartbeats 2000000 in
theorem hyOk8 (t : Int) (id : Int) (c : List UInt8) (more : List UInt8) (cut : Int) (b0 : 0 ≤ t) (b1 : t ≤ 255) (b2 : 0 ≤ id) (b3 : id ≤ 65535) (b4 : c.length ≤ 9223372036854775807) (b5 : more.length ≤ 9223372036854775807) (b6 : 0 ≤ cut) (b7 : cut ≤ 65535) (h0 : ¬ (2000 < (c.length : Int))) (h1 : ¬ (200 < (more.length : Int))) (h2 : ¬ (t = 0)) (h3 : ¬ ((-(max ((c.length : Int)) 0)) % 8 = 0)) (h4 : ¬ ((-(max ((c.length : Int)) 0)) % 8 = 1)) (h5 : ¬ ((-(max ((c.length : Int)) 0)) % 8 = 2)) (h6 : ¬ ((-(max ((c.length : Int)) 0)) % 8 = 3)) (h7 : ¬ ((-(max ((c.length : Int)) 0)) % 8 = 4)) (h8 : ¬ ((-(max ((c.length : Int)) 0)) % 8 = 5)) (h9 : (-(max ((c.length : Int)) 0)) % 8 = 6) (h21 : ¬ ((cut % ((c.length : Int) + 14)) = 0)) (h22 : ¬ ((cut % ((c.length : Int) + 14)) < 8)) : ∀ k r, (k, r) ∈ hy8 → HOk (cx (nuL (nu8 t id c more cut)) (one8 t id c more cut) 0 laidE laidE_stab) k r := by
  have := Int.emod_nonneg cut (show ((c.length : Int) + 14) ≠ 0 by omega); have := Int.emod_lt_of_pos cut (show 0 < ((c.length : Int) + 14) by omega)
  unfold hy8
  refine hcons (kLenE (isX rfl) (denX rfl) (by first | omega | (simp only [List.length_append, List.length_cons, List.length_nil, List.length_take, List.length_drop, Int.natCast_add] at *; omega))) ?_
  refine hcons (kGt (isX rfl) (isZ (m := 2000) rfl) (decide_eq_false (by omega))) ?_
  refine hcons (kLenE (isX rfl) (denX rfl) (by first | omega | (simp only [List.length_append, List.length_cons, List.length_nil, List.length_take, List.length_drop, Int.natCast_add] at *; omega))) ?_
  refine hcons (kGt (isX rfl) (isZ (m := 200) rfl) (decide_eq_false (by omega))) ?_
  refine hcons (kEqI (isX rfl) (isZ (m := 0) rfl) (decide_eq_false (by omega))) ?_
  refine hcons (kConvF (isX rfl) tu3 (denX rfl) (fI64 (by omega) (by omega))) ?_
  refine hcons (kConvF (isX rfl) tu3 (denX rfl) (fI64 (by omega) (by omega))) ?_
  refine hcons (kMax (isX rfl) (isZ (m := 0) rfl) (denX rfl) rfl) ?_
  refine hcons (kNeg (isX rfl) (denX rfl) rfl (fI64 (by omega) (by omega))) ?_
  refine hcons (kAndG 3 8 rfl (by decide) (isX rfl) (isZ (m := 7) rfl) (denZ (m := 6) rfl) (fI64 (by omega) (by omega)) rfl (by omega) (fI64 (by omega) (by omega))) ?_
  refine hcons (kGe (isX rfl) (isZ (m := 1) rfl) (decide_eq_true (by omega))) ?_
  refine hcons (kLe (isX rfl) (isZ (m := 255) rfl) (decide_eq_true (by omega))) ?_
  refine hcons (kGe (isX rfl) (isZ (m := 0) rfl) (decide_eq_true (by omega))) ?_
  refine hcons (kLe (isX rfl) (isZ (m := 65535) rfl) (decide_eq_true (by omega))) ?_
  refine hcons (kLe (isX rfl) (isZ (m := 65535) rfl) (decide_eq_true (by omega))) ?_
  refine hcons (kConvF (isX rfl) tu5 (denX rfl) (fU8 (by omega) (by omega))) ?_
  refine hcons (kShrM 8 256 rfl (isX rfl) (isZ (m := 8) rfl) (denX rfl) rfl (by decide) (by omega) rfl) ?_
  refine hcons (kConvF (isX rfl) tu5 (denX rfl) (fU8 (by omega) (by omega))) ?_
  refine hcons (kConv8 (isX rfl) tu5 (denX rfl) rfl) ?_
  refine hcons (kShrM 8 256 rfl (isX rfl) (isZ (m := 8) rfl) (denX rfl) rfl (by decide) (by omega) rfl) ?_
  refine hcons (kConv8 (isX rfl) tu5 (denX rfl) rfl) ?_
  refine hcons (kConv8 (isX rfl) tu5 (denX rfl) rfl) ?_
  refine hcons (kBytesB (bs := [u8 1, u8 (t), u8 (id / 256), u8 (id % 256), u8 ((((c.length : Int)) / 256) % 256), u8 (((c.length : Int)) % 256), u8 6, u8 0]) (.cons (isB8 (isZ (m := 1) rfl) (by omega) (by omega)) (.cons (isB8 (isX rfl) (by omega) (by omega)) (.cons (isB8 (isX rfl) (by omega) (by omega)) (.cons (isB8 (isX rfl) (by omega) (by omega)) (.cons (isB8 (isX rfl) (by omega) (by omega)) (.cons (isB8 (isX rfl) (by omega) (by omega)) (.cons (isB8 (isZ (m := 6) rfl) (by omega) (by omega)) (.cons (isB8 (isZ (m := 0) rfl) (by omega) (by omega)) .nil)))))))) (denX rfl)) ?_
  refine hcons (kCat (isX rfl) (isX rfl) (denX rfl) (by first | rfl | (simp only [List.append_assoc, List.cons_append, List.nil_append, List.append_nil]; done)) (by first | omega | (simp only [List.length_append, List.length_cons, List.length_nil, List.length_take, List.length_drop, Int.natCast_add] at *; omega))) ?_
  refine hcons (kCat (isX rfl) (isSx (l := [u8 0, u8 0, u8 0, u8 0, u8 0, u8 0]) 6 0 rfl) (denX rfl) (by first | rfl | (simp only [List.append_assoc, List.cons_append, List.nil_append, List.append_nil]; done)) (by first | omega | (simp only [List.length_append, List.length_cons, List.length_nil, List.length_take, List.length_drop, Int.natCast_add] at *; omega))) ?_
  refine hcons (kLenE (isX rfl) (denX rfl) (by first | omega | (simp only [List.length_append, List.length_cons, List.length_nil, List.length_take, List.length_drop, Int.natCast_add] at *; omega))) ?_
  refine hcons (kLt (isX rfl) (isZ (m := 8) rfl) (decide_eq_false (by omega))) ?_
  refine hcons (kRem (isX rfl) (isZ (m := 8) rfl) (denX rfl) (by omega) (by omega) rfl) ?_
  refine hcons (kNeI (isX rfl) (isZ (m := 0) rfl) (neF (by omega))) ?_
  refine hcons (kCat (isX rfl) (isX rfl) (denX rfl) (by first | rfl | (simp only [List.append_assoc, List.cons_append, List.nil_append, List.append_nil]; done)) (by first | omega | (simp only [List.length_append, List.length_cons, List.length_nil, List.length_take, List.length_drop, Int.natCast_add] at *; omega))) ?_
  refine hcons (kNeS (isX rfl) (isSx (l := ([] : List UInt8)) 0 0 rfl) (bnT (by first | exact nilT (by first | omega | (simp only [List.length_append, List.length_cons, List.length_nil, List.length_take, List.length_drop, Int.natCast_add] at *; omega)) | exact nilF (by first | omega | (simp only [List.length_append, List.length_cons, List.length_nil, List.length_take, List.length_drop, Int.natCast_add] at *; omega)) | exact nilT' (by first | omega | (simp only [List.length_append, List.length_cons, List.length_nil, List.length_take, List.length_drop, Int.natCast_add] at *; omega)) | exact nilF' (by first | omega | (simp only [List.length_append, List.length_cons, List.length_nil, List.length_take, List.length_drop, Int.natCast_add] at *; omega))))) ?_
  refine hcons (kIdxE (i := 0) (isX rfl) (isZ (m := 0) rfl) (denZ (m := 1) rfl) rfl (by first | omega | (simp only [List.length_append, List.length_cons, List.length_nil, List.length_take, List.length_drop, Int.natCast_add] at *; omega)) (bt_at rfl (by omega) (by omega))) ?_
  refine hcons (kLenE (isX rfl) (denX rfl) (by first | omega | (simp only [List.length_append, List.length_cons, List.length_nil, List.length_take, List.length_drop, Int.natCast_add] at *; omega))) ?_
  refine hcons (kLt (isX rfl) (isZ (m := 8) rfl) (decide_eq_false (by omega))) ?_
  refine hcons (kIdxE (i := 4) (isX rfl) (isZ (m := 4) rfl) (denX rfl) rfl (by first | omega | (simp only [List.length_append, List.length_cons, List.length_nil, List.length_take, List.length_drop, Int.natCast_add] at *; omega)) (bt_at rfl (by omega) (by omega))) ?_
  refine hcons (kConvF (isX rfl) tu3 (denX rfl) (fI64 (by omega) (by omega))) ?_
  refine hcons (kShlM 8 256 rfl (isX rfl) (isZ (m := 8) rfl) (denX rfl) rfl (by decide) rfl (fI64 (by omega) (by omega))) ?_
  refine hcons (kAdd (isZ (m := 8) rfl) (isX rfl) (denX rfl) rfl (fI64 (by omega) (by omega))) ?_
  refine hcons (kIdxE (i := 5) (isX rfl) (isZ (m := 5) rfl) (denX rfl) rfl (by first | omega | (simp only [List.length_append, List.length_cons, List.length_nil, List.length_take, List.length_drop, Int.natCast_add] at *; omega)) (bt_at rfl (by omega) (by omega))) ?_
  refine hcons (kConvF (isX rfl) tu3 (denX rfl) (fI64 (by omega) (by omega))) ?_
  refine hcons (kAdd (isX rfl) (isX rfl) (denX rfl) rfl (fI64 (by omega) (by omega))) ?_
  refine hcons (kIdxE (i := 6) (isX rfl) (isZ (m := 6) rfl) (denZ (m := 6) rfl) rfl (by first | omega | (simp only [List.length_append, List.length_cons, List.length_nil, List.length_take, List.length_drop, Int.natCast_add] at *; omega)) (bt_at rfl (by omega) (by omega))) ?_
  refine hcons (kAdd (isX rfl) (isZ (m := 6) rfl) (denX rfl) rfl (fI64 (by omega) (by omega))) ?_
  refine hcons (kLt (isX rfl) (isX rfl) (decide_eq_false (by omega))) ?_
  refine hcons (kIdxE (i := 1) (isX rfl) (isZ (m := 1) rfl) (denX rfl) rfl (by first | omega | (simp only [List.length_append, List.length_cons, List.length_nil, List.length_take, List.length_drop, Int.natCast_add] at *; omega)) (bt_at rfl (by omega) (by omega))) ?_
  refine hcons (kEqI (isX rfl) (isZ (m := 0) rfl) (decide_eq_false (by omega))) ?_
  refine hcons (kConvF (isX rfl) tu3 (denX rfl) (fI64 (by omega) (by omega))) ?_
  refine hcons (kIdxE (i := 2) (isX rfl) (isZ (m := 2) rfl) (denX rfl) rfl (by first | omega | (simp only [List.length_append, List.length_cons, List.length_nil, List.length_take, List.length_drop, Int.natCast_add] at *; omega)) (bt_at rfl (by omega) (by omega))) ?_
  refine hcons (kConvF (isX rfl) tu3 (denX rfl) (fI64 (by omega) (by omega))) ?_
  refine hcons (kShlM 8 256 rfl (isX rfl) (isZ (m := 8) rfl) (denX rfl) rfl (by decide) rfl (fI64 (by omega) (by omega))) ?_
  refine hcons (kIdxE (i := 3) (isX rfl) (isZ (m := 3) rfl) (denX rfl) rfl (by first | omega | (simp only [List.length_append, List.length_cons, List.length_nil, List.length_take, List.length_drop, Int.natCast_add] at *; omega)) (bt_at rfl (by omega) (by omega))) ?_
  refine hcons (kConvF (isX rfl) tu3 (denX rfl) (fI64 (by omega) (by omega))) ?_
  refine hcons (kOrM 8 256 rfl (isX rfl) (isX rfl) (denX rfl) (by omega) (by omega) (fI64 (by omega) (by omega)) (fI64 (by omega) (by omega)) (by omega) (by omega) rfl (fI64 (by omega) (by omega))) ?_
  refine hcons (kSub (isX rfl) (isZ (m := 6) rfl) (denX rfl) rfl (fI64 (by omega) (by omega))) ?_
  refine hcons (kCut (isX rfl) (.inr ⟨_, _, rfl, (isZ (m := 8) rfl)⟩) (.inr ⟨_, _, rfl, (isX rfl)⟩) (p := [u8 1, u8 (t), u8 (id / 256), u8 (id % 256), u8 ((((c.length : Int)) / 256) % 256), u8 (((c.length : Int)) % 256), u8 6, u8 0]) (m := c) (q := ([u8 0, u8 0, u8 0, u8 0, u8 0, u8 0] ++ more)) (by first | rfl | (simp only [List.append_assoc, List.cons_append, List.nil_append, List.append_nil]; done)) (by first | omega | (simp only [List.length_append, List.length_cons, List.length_nil, List.length_take, List.length_drop, Int.natCast_add] at *; omega)) (by first | omega | (simp only [List.length_append, List.length_cons, List.length_nil, List.length_take, List.length_drop, Int.natCast_add] at *; omega)) (denX rfl)) ?_
  refine hcons (kCut (isX rfl) (.inr ⟨_, _, rfl, (isX rfl)⟩) (.inl ⟨rfl, rfl⟩) (p := ([u8 1, u8 (t), u8 (id / 256), u8 (id % 256), u8 ((((c.length : Int)) / 256) % 256), u8 (((c.length : Int)) % 256), u8 6, u8 0] ++ (c ++ [u8 0, u8 0, u8 0, u8 0, u8 0, u8 0]))) (m := more) (q := ([] : List UInt8)) (by first | rfl | (simp only [List.append_assoc, List.cons_append, List.nil_append, List.append_nil]; done)) (by first | omega | (simp only [List.length_append, List.length_cons, List.length_nil, List.length_take, List.length_drop, Int.natCast_add] at *; omega)) (by first | omega | (simp only [List.length_append, List.length_cons, List.length_nil, List.length_take, List.length_drop, Int.natCast_add] at *; omega)) (denX rfl)) ?_
  refine hcons (kConvF (isX rfl) tu3 (denX rfl) (fI64 (by omega) (by omega))) ?_
  refine hcons (kRem (isX rfl) (isX rfl) (denX rfl) (by omega) (by omega) rfl) ?_
  refine hcons (kTake (isX rfl) (isX rfl) (by first | omega | (simp only [List.length_append, List.length_cons, List.length_nil, List.length_take, List.length_drop, Int.natCast_add] at *; omega)) (by first | omega | (simp only [List.length_append, List.length_cons, List.length_nil, List.length_take, List.length_drop, Int.natCast_add] at *; omega)) (denX rfl)) ?_
  refine hcons (kNeS (isX rfl) (isSx (l := ([] : List UInt8)) 0 0 rfl) (bnT (by first | exact nilT (by first | omega | (simp only [List.length_append, List.length_cons, List.length_nil, List.length_take, List.length_drop, Int.natCast_add] at *; omega)) | exact nilF (by first | omega | (simp only [List.length_append, List.length_cons, List.length_nil, List.length_take, List.length_drop, Int.natCast_add] at *; omega)) | exact nilT' (by first | omega | (simp only [List.length_append, List.length_cons, List.length_nil, List.length_take, List.length_drop, Int.natCast_add] at *; omega)) | exact nilF' (by first | omega | (simp only [List.length_append, List.length_cons, List.length_nil, List.length_take, List.length_drop, Int.natCast_add] at *; omega))))) ?_
  refine hcons (kIdxE (i := 0) (isX rfl) (isZ (m := 0) rfl) (denZ (m := 1) rfl) rfl (by first | omega | (simp only [List.length_append, List.length_cons, List.length_nil, List.length_take, List.length_drop, Int.natCast_add] at *; omega)) ((bt_take (by omega)).trans (bt_at rfl (by omega) (by omega)))) ?_
  refine hcons (kLenE (isX rfl) (denX rfl) (by first | omega | (simp only [List.length_append, List.length_cons, List.length_nil, List.length_take, List.length_drop, Int.natCast_add] at *; omega))) ?_
  refine hcons (kLt (isX rfl) (isZ (m := 8) rfl) (decide_eq_false (by omega))) ?_
  refine hcons (kIdxE (i := 4) (isX rfl) (isZ (m := 4) rfl) (denX rfl) rfl (by first | omega | (simp only [List.length_append, List.length_cons, List.length_nil, List.length_take, List.length_drop, Int.natCast_add] at *; omega)) ((bt_take (by omega)).trans (bt_at rfl (by omega) (by omega)))) ?_
  refine hcons (kConvF (isX rfl) tu3 (denX rfl) (fI64 (by omega) (by omega))) ?_
  refine hcons (kShlM 8 256 rfl (isX rfl) (isZ (m := 8) rfl) (denX rfl) rfl (by decide) rfl (fI64 (by omega) (by omega))) ?_
  refine hcons (kAdd (isZ (m := 8) rfl) (isX rfl) (denX rfl) rfl (fI64 (by omega) (by omega))) ?_
  refine hcons (kIdxE (i := 5) (isX rfl) (isZ (m := 5) rfl) (denX rfl) rfl (by first | omega | (simp only [List.length_append, List.length_cons, List.length_nil, List.length_take, List.length_drop, Int.natCast_add] at *; omega)) ((bt_take (by omega)).trans (bt_at rfl (by omega) (by omega)))) ?_
  refine hcons (kConvF (isX rfl) tu3 (denX rfl) (fI64 (by omega) (by omega))) ?_
  refine hcons (kAdd (isX rfl) (isX rfl) (denX rfl) rfl (fI64 (by omega) (by omega))) ?_
  refine hcons (kIdxE (i := 6) (isX rfl) (isZ (m := 6) rfl) (denZ (m := 6) rfl) rfl (by first | omega | (simp only [List.length_append, List.length_cons, List.length_nil, List.length_take, List.length_drop, Int.natCast_add] at *; omega)) ((bt_take (by omega)).trans (bt_at rfl (by omega) (by omega)))) ?_
  refine hcons (kAdd (isX rfl) (isZ (m := 6) rfl) (denX rfl) rfl (fI64 (by omega) (by omega))) ?_
  refine hcons (kLt (isX rfl) (isX rfl) (decide_eq_true (by omega))) ?_
  refine hcons (kEqT (isX rfl) (isX rfl) tu3 (decide_eq_true (by omega))) ?_
  refine hcons (kEqT (isX rfl) (isX rfl) tu3 (decide_eq_true (by omega))) ?_
  refine hcons (kEqTS (isX rfl) (isX rfl) tu9 (decide_eq_true rfl)) ?_
  refine hcons (kEqS (isX rfl) (isX rfl) (decide_eq_true rfl)) ?_
  exact hnil
theorem path8 (t : Int) (id : Int) (c : List UInt8) (more : List UInt8) (cut : Int) (b0 : 0 ≤ t) (b1 : t ≤ 255) (b2 : 0 ≤ id) (b3 : id ≤ 65535) (b4 : c.length ≤ 9223372036854775807) (b5 : more.length ≤ 9223372036854775807) (b6 : 0 ≤ cut) (b7 : cut ≤ 65535) (h0 : ¬ (2000 < (c.length : Int))) (h1 : ¬ (200 < (more.length : Int))) (h2 : ¬ (t = 0)) (h3 : ¬ ((-(max ((c.length : Int)) 0)) % 8 = 0)) (h4 : ¬ ((-(max ((c.length : Int)) 0)) % 8 = 1)) (h5 : ¬ ((-(max ((c.length : Int)) 0)) % 8 = 2)) (h6 : ¬ ((-(max ((c.length : Int)) 0)) % 8 = 3)) (h7 : ¬ ((-(max ((c.length : Int)) 0)) % 8 = 4)) (h8 : ¬ ((-(max ((c.length : Int)) 0)) % 8 = 5)) (h9 : (-(max ((c.length : Int)) 0)) % 8 = 6) (h21 : ¬ ((cut % ((c.length : Int) + 14)) = 0)) (h22 : ¬ ((cut % ((c.length : Int) + 14)) < 8)) (w : World) (hl : laidE w) : Calls Try.prog 3 #[.int .u8 t, .int .u16 id, St' c, .bool true, St' more, .int .u16 cut] w fun e w' => e = .returned (.bool true) ∧ Go.AX.Below w.heap.size w w' := by
  obtain ⟨fi, hfi, hb⟩ : ∃ fi, tabk.fn.get 3 = some fi ∧ fi.body.isSome = true := ⟨_, rfl, by kernel_rfl⟩
  exact runP (tb := tab8) ((tabkOk (nuL (nu8 t id c more cut)) (one8 t id c more cut)).hyps (hyOk8 t id c more cut b0 b1 b2 b3 b4 b5 b6 b7 h0 h1 h2 h3 h4 h5 h6 h7 h8 h9 h21 h22)) rfl hfi hb (run8 ) (args := [.int .u8 t, .int .u16 id, St' c, .bool true, St' more, .int .u16 cut]) (by simp only [RelL, Rel]; exact ⟨_, _, rfl, rfl, ⟨_, _, rfl, rfl, ⟨_, _, rfl, rfl, ⟨_, _, rfl, rfl, ⟨_, _, rfl, rfl, ⟨_, _, rfl, rfl, rfl⟩⟩⟩⟩⟩⟩) w hl
def hy9 : List (HK × AV) := [(.len (.x 2), .x 5),
  (.bin .gtr (.x 5) (.i .i64 (.ofNat 2000)), .b false),
  (.len (.x 3), .x 6),
  (.bin .gtr (.x 6) (.i .i64 (.ofNat 200)), .b false),
  (.bin .eql (.x 0) (.i .u8 (.ofNat 0)), .b false),
  (.conv 3 (.x 0), .x 7),
  (.conv 3 (.x 1), .x 8),
  (.mm true (.x 5) (.i .i64 (.ofNat 0)), .x 9),
  (.un .neg (.x 9), .x 10),
  (.bin .and (.x 10) (.i .i64 (.ofNat 7)), .i .i64 (.ofNat 5)),
  (.bin .geq (.x 7) (.i .i64 (.ofNat 1)), .b true),
  (.bin .leq (.x 7) (.i .i64 (.ofNat 255)), .b true),
  (.bin .geq (.x 8) (.i .i64 (.ofNat 0)), .b true),
  (.bin .leq (.x 8) (.i .i64 (.ofNat 65535)), .b true),
  (.bin .leq (.x 5) (.i .i64 (.ofNat 65535)), .b true),
  (.conv 5 (.x 7), .x 11),
  (.bin .shr (.x 8) (.i .u64 (.ofNat 8)), .x 12),
  (.conv 5 (.x 12), .x 13),
  (.conv 5 (.x 8), .x 14),
  (.bin .shr (.x 5) (.i .u64 (.ofNat 8)), .x 15),
  (.conv 5 (.x 15), .x 16),
  (.conv 5 (.x 5), .x 17),
  (.bytes [.i .u8 (.ofNat 1), .x 11, .x 13, .x 14, .x 16, .x 17, .i .u8 (.ofNat 5), .i .u8 (.ofNat 0)], .x 18),
  (.bin .add (.x 18) (.x 2), .x 19),
  (.bin .add (.x 19) (.s 5 0), .x 20),
  (.len (.x 20), .x 21),
  (.bin .lss (.x 21) (.i .i64 (.ofNat 8)), .b false),
  (.bin .rem (.x 21) (.i .i64 (.ofNat 8)), .x 22),
  (.bin .neq (.x 22) (.i .i64 (.ofNat 0)), .b false),
  (.bin .add (.x 20) (.x 3), .x 23),
  (.bin .neq (.x 23) (.s 0 0), .b true),
  (.idx (.x 23) (.i .i64 (.ofNat 0)), .i .u8 (.ofNat 1)),
  (.len (.x 23), .x 24),
  (.bin .lss (.x 24) (.i .i64 (.ofNat 8)), .b false),
  (.idx (.x 23) (.i .i64 (.ofNat 4)), .x 25),
  (.conv 3 (.x 25), .x 26),
  (.bin .shl (.x 26) (.i .u64 (.ofNat 8)), .x 27),
  (.bin .add (.i .i64 (.ofNat 8)) (.x 27), .x 28),
  (.idx (.x 23) (.i .i64 (.ofNat 5)), .x 29),
  (.conv 3 (.x 29), .x 30),
  (.bin .add (.x 28) (.x 30), .x 31),
  (.idx (.x 23) (.i .i64 (.ofNat 6)), .i .u8 (.ofNat 5)),
  (.bin .add (.x 31) (.i .i64 (.ofNat 5)), .x 32),
  (.bin .lss (.x 24) (.x 32), .b false),
  (.idx (.x 23) (.i .i64 (.ofNat 1)), .x 33),
  (.bin .eql (.x 33) (.i .u8 (.ofNat 0)), .b false),
  (.conv 3 (.x 33), .x 34),
  (.idx (.x 23) (.i .i64 (.ofNat 2)), .x 35),
  (.conv 3 (.x 35), .x 36),
  (.bin .shl (.x 36) (.i .u64 (.ofNat 8)), .x 37),
  (.idx (.x 23) (.i .i64 (.ofNat 3)), .x 38),
  (.conv 3 (.x 38), .x 39),
  (.bin .or (.x 37) (.x 39), .x 40),
  (.bin .sub (.x 32) (.i .i64 (.ofNat 5)), .x 41),
  (.sub (.x 23) (some (.i .i64 (.ofNat 8))) (some (.x 41)), .x 42),
  (.sub (.x 23) (some (.x 32)) none, .x 43),
  (.conv 3 (.x 4), .x 44),
  (.bin .rem (.x 44) (.x 21), .x 45),
  (.sub (.x 20) none (some (.x 45)), .x 46),
  (.bin .neq (.x 46) (.s 0 0), .b false),
  (.len (.x 46), .x 47),
  (.bin .lss (.x 47) (.i .i64 (.ofNat 8)), .b true),
  (.eq 3 (.x 34) (.x 7), .b true),
  (.eq 3 (.x 40) (.x 8), .b true),
  (.eq 9 (.x 42) (.x 2), .b true),
  (.bin .eql (.x 43) (.x 3), .b true)]
noncomputable def tab9 : Tab := { tabk with hyp := hy9 }
theorem run9 : okB (call tab9 9000 3 [.x 0, .x 1, .x 2, .b true, .x 3, .x 4] ⟨H0 , 1, 0, 0⟩) = true := by kernel_rfl
def nu9 (t : Int) (id : Int) (c : List UInt8) (more : List UInt8) (cut : Int) : List Value := [.int .u8 (t),
  .int .u16 (id),
  St' c,
  St' more,
  .int .u16 (cut),
  .int .i64 ((c.length : Int)),
  .int .i64 ((more.length : Int)),
  .int .i64 (t),
  .int .i64 (id),
  .int .i64 (max ((c.length : Int)) 0),
  .int .i64 (-(max ((c.length : Int)) 0)),
  .int .u8 (t),
  .int .i64 (id / 256),
  .int .u8 (id / 256),
  .int .u8 (id % 256),
  .int .i64 (((c.length : Int)) / 256),
  .int .u8 ((((c.length : Int)) / 256) % 256),
  .int .u8 (((c.length : Int)) % 256),
  St' ([u8 1, u8 (t), u8 (id / 256), u8 (id % 256), u8 ((((c.length : Int)) / 256) % 256), u8 (((c.length : Int)) % 256), u8 5, u8 0]),
  St' (([u8 1, u8 (t), u8 (id / 256), u8 (id % 256), u8 ((((c.length : Int)) / 256) % 256), u8 (((c.length : Int)) % 256), u8 5, u8 0] ++ c)),
  St' (([u8 1, u8 (t), u8 (id / 256), u8 (id % 256), u8 ((((c.length : Int)) / 256) % 256), u8 (((c.length : Int)) % 256), u8 5, u8 0] ++ (c ++ [u8 0, u8 0, u8 0, u8 0, u8 0]))),
  .int .i64 ((c.length : Int) + 13),
  .int .i64 (((c.length : Int) + 13) % 8),
  St' (([u8 1, u8 (t), u8 (id / 256), u8 (id % 256), u8 ((((c.length : Int)) / 256) % 256), u8 (((c.length : Int)) % 256), u8 5, u8 0] ++ (c ++ ([u8 0, u8 0, u8 0, u8 0, u8 0] ++ more)))),
  .int .i64 ((c.length : Int) + (more.length : Int) + 13),
  .int .u8 ((((c.length : Int)) / 256) % 256),
  .int .i64 ((((c.length : Int)) / 256) % 256),
  .int .i64 (((((c.length : Int)) / 256) % 256) * 256),
  .int .i64 (8 + (((((c.length : Int)) / 256) % 256) * 256)),
  .int .u8 (((c.length : Int)) % 256),
  .int .i64 (((c.length : Int)) % 256),
  .int .i64 ((8 + (((((c.length : Int)) / 256) % 256) * 256)) + (((c.length : Int)) % 256)),
  .int .i64 (((8 + (((((c.length : Int)) / 256) % 256) * 256)) + (((c.length : Int)) % 256)) + 5),
  .int .u8 (t),
  .int .i64 (t),
  .int .u8 (id / 256),
  .int .i64 (id / 256),
  .int .i64 ((id / 256) * 256),
  .int .u8 (id % 256),
  .int .i64 (id % 256),
  .int .i64 (((id / 256) * 256) + (id % 256)),
  .int .i64 ((((8 + (((((c.length : Int)) / 256) % 256) * 256)) + (((c.length : Int)) % 256)) + 5) - 5),
  St' c,
  St' more,
  .int .i64 (cut),
  .int .i64 (cut % ((c.length : Int) + 13)),
  St' ((List.take (cut % ((c.length : Int) + 13)).toNat (([u8 1, u8 (t), u8 (id / 256), u8 (id % 256), u8 ((((c.length : Int)) / 256) % 256), u8 (((c.length : Int)) % 256), u8 5, u8 0] ++ (c ++ [u8 0, u8 0, u8 0, u8 0, u8 0]))))),
  .int .i64 ((cut % ((c.length : Int) + 13)))]
theorem one9 (t : Int) (id : Int) (c : List UInt8) (more : List UInt8) (cut : Int) : ∀ j, (nuL (nu9 t id c more cut) j).oneCell' = true := nuL_one (l := nu9 t id c more cut) rfl
set_option maxHeartbeats 2000000 in
theorem hyOk9 (t : Int) (id : Int) (c : List UInt8) (more : List UInt8) (cut : Int) (b0 : 0 ≤ t) (b1 : t ≤ 255) (b2 : 0 ≤ id) (b3 : id ≤ 65535) (b4 : c.length ≤ 9223372036854775807) (b5 : more.length ≤ 9223372036854775807) (b6 : 0 ≤ cut) (b7 : cut ≤ 65535) (h0 : ¬ (2000 < (c.length : Int))) (h1 : ¬ (200 < (more.length : Int))) (h2 : ¬ (t = 0)) (h3 : ¬ ((-(max ((c.length : Int)) 0)) % 8 = 0)) (h4 : ¬ ((-(max ((c.length : Int)) 0)) % 8 = 1)) (h5 : ¬ ((-(max ((c.length : Int)) 0)) % 8 = 2)) (h6 : ¬ ((-(max ((c.length : Int)) 0)) % 8 = 3)) (h7 : ¬ ((-(max ((c.length : Int)) 0)) % 8 = 4)) (h8 : (-(max ((c.length : Int)) 0)) % 8 = 5) (h20 : (cut % ((c.length : Int) + 13)) = 0) : ∀ k r, (k, r) ∈ hy9 → HOk (cx (nuL (nu9 t id c more cut)) (one9 t id c more cut) 0 laidE laidE_stab) k r := by
  have := Int.emod_nonneg cut (show ((c.length : Int) + 13) ≠ 0 by omega); have := Int.emod_lt_of_pos cut (show 0 < ((c.length : Int) + 13) by omega)
  unfold hy9
  refine hcons (kLenE (isX rfl) (denX rfl) (by first | omega | (simp only [List.length_append, List.length_cons, List.length_nil, List.length_take, List.length_drop, Int.natCast_add] at *; omega))) ?_
  refine hcons (kGt (isX rfl) (isZ (m := 2000) rfl) (decide_eq_false (by omega))) ?_
  refine hcons (kLenE (isX rfl) (denX rfl) (by first | omega | (simp only [List.length_append, List.length_cons, List.length_nil, List.length_take, List.length_drop, Int.natCast_add] at *; omega))) ?_
  refine hcons (kGt (isX rfl) (isZ (m := 200) rfl) (decide_eq_false (by omega))) ?_
  refine hcons (kEqI (isX rfl) (isZ (m := 0) rfl) (decide_eq_false (by omega))) ?_
  refine hcons (kConvF (isX rfl) tu3 (denX rfl) (fI64 (by omega) (by omega))) ?_
  refine hcons (kConvF (isX rfl) tu3 (denX rfl) (fI64 (by omega) (by omega))) ?_
  refine hcons (kMax (isX rfl) (isZ (m := 0) rfl) (denX rfl) rfl) ?_
  refine hcons (kNeg (isX rfl) (denX rfl) rfl (fI64 (by omega) (by omega))) ?_
  refine hcons (kAndG 3 8 rfl (by decide) (isX rfl) (isZ (m := 7) rfl) (denZ (m := 5) rfl) (fI64 (by omega) (by omega)) rfl (by omega) (fI64 (by omega) (by omega))) ?_
  refine hcons (kGe (isX rfl) (isZ (m := 1) rfl) (decide_eq_true (by omega))) ?_
  refine hcons (kLe (isX rfl) (isZ (m := 255) rfl) (decide_eq_true (by omega))) ?_
  refine hcons (kGe (isX rfl) (isZ (m := 0) rfl) (decide_eq_true (by omega))) ?_
  refine hcons (kLe (isX rfl) (isZ (m := 65535) rfl) (decide_eq_true (by omega))) ?_
  refine hcons (kLe (isX rfl) (isZ (m := 65535) rfl) (decide_eq_true (by omega))) ?_
  refine hcons (kConvF (isX rfl) tu5 (denX rfl) (fU8 (by omega) (by omega))) ?_
  refine hcons (kShrM 8 256 rfl (isX rfl) (isZ (m := 8) rfl) (denX rfl) rfl (by decide) (by omega) rfl) ?_
  refine hcons (kConvF (isX rfl) tu5 (denX rfl) (fU8 (by omega) (by omega))) ?_
  refine hcons (kConv8 (isX rfl) tu5 (denX rfl) rfl) ?_
  refine hcons (kShrM 8 256 rfl (isX rfl) (isZ (m := 8) rfl) (denX rfl) rfl (by decide) (by omega) rfl) ?_
  refine hcons (kConv8 (isX rfl) tu5 (denX rfl) rfl) ?_
  refine hcons (kConv8 (isX rfl) tu5 (denX rfl) rfl) ?_
  refine hcons (kBytesB (bs := [u8 1, u8 (t), u8 (id / 256), u8 (id % 256), u8 ((((c.length : Int)) / 256) % 256), u8 (((c.length : Int)) % 256), u8 5, u8 0]) (.cons (isB8 (isZ (m := 1) rfl) (by omega) (by omega)) (.cons (isB8 (isX rfl) (by omega) (by omega)) (.cons (isB8 (isX rfl) (by omega) (by omega)) (.cons (isB8 (isX rfl) (by omega) (by omega)) (.cons (isB8 (isX rfl) (by omega) (by omega)) (.cons (isB8 (isX rfl) (by omega) (by omega)) (.cons (isB8 (isZ (m := 5) rfl) (by omega) (by omega)) (.cons (isB8 (isZ (m := 0) rfl) (by omega) (by omega)) .nil)))))))) (denX rfl)) ?_
  refine hcons (kCat (isX rfl) (isX rfl) (denX rfl) (by first | rfl | (simp only [List.append_assoc, List.cons_append, List.nil_append, List.append_nil]; done)) (by first | omega | (simp only [List.length_append, List.length_cons, List.length_nil, List.length_take, List.length_drop, Int.natCast_add] at *; omega))) ?_
  refine hcons (kCat (isX rfl) (isSx (l := [u8 0, u8 0, u8 0, u8 0, u8 0]) 5 0 rfl) (denX rfl) (by first | rfl | (simp only [List.append_assoc, List.cons_append, List.nil_append, List.append_nil]; done)) (by first | omega | (simp only [List.length_append, List.length_cons, List.length_nil, List.length_take, List.length_drop, Int.natCast_add] at *; omega))) ?_
  refine hcons (kLenE (isX rfl) (denX rfl) (by first | omega | (simp only [List.length_append, List.length_cons, List.length_nil, List.length_take, List.length_drop, Int.natCast_add] at *; omega))) ?_
  refine hcons (kLt (isX rfl) (isZ (m := 8) rfl) (decide_eq_false (by omega))) ?_
  refine hcons (kRem (isX rfl) (isZ (m := 8) rfl) (denX rfl) (by omega) (by omega) rfl) ?_
  refine hcons (kNeI (isX rfl) (isZ (m := 0) rfl) (neF (by omega))) ?_
  refine hcons (kCat (isX rfl) (isX rfl) (denX rfl) (by first | rfl | (simp only [List.append_assoc, List.cons_append, List.nil_append, List.append_nil]; done)) (by first | omega | (simp only [List.length_append, List.length_cons, List.length_nil, List.length_take, List.length_drop, Int.natCast_add] at *; omega))) ?_
  refine hcons (kNeS (isX rfl) (isSx (l := ([] : List UInt8)) 0 0 rfl) (bnT (by first | exact nilT (by first | omega | (simp only [List.length_append, List.length_cons, List.length_nil, List.length_take, List.length_drop, Int.natCast_add] at *; omega)) | exact nilF (by first | omega | (simp only [List.length_append, List.length_cons, List.length_nil, List.length_take, List.length_drop, Int.natCast_add] at *; omega)) | exact nilT' (by first | omega | (simp only [List.length_append, List.length_cons, List.length_nil, List.length_take, List.length_drop, Int.natCast_add] at *; omega)) | exact nilF' (by first | omega | (simp only [List.length_append, List.length_cons, List.length_nil, List.length_take, List.length_drop, Int.natCast_add] at *; omega))))) ?_
  refine hcons (kIdxE (i := 0) (isX rfl) (isZ (m := 0) rfl) (denZ (m := 1) rfl) rfl (by first | omega | (simp only [List.length_append, List.length_cons, List.length_nil, List.length_take, List.length_drop, Int.natCast_add] at *; omega)) (bt_at rfl (by omega) (by omega))) ?_
  refine hcons (kLenE (isX rfl) (denX rfl) (by first | omega | (simp only [List.length_append, List.length_cons, List.length_nil, List.length_take, List.length_drop, Int.natCast_add] at *; omega))) ?_
  refine hcons (kLt (isX rfl) (isZ (m := 8) rfl) (decide_eq_false (by omega))) ?_
  refine hcons (kIdxE (i := 4) (isX rfl) (isZ (m := 4) rfl) (denX rfl) rfl (by first | omega | (simp only [List.length_append, List.length_cons, List.length_nil, List.length_take, List.length_drop, Int.natCast_add] at *; omega)) (bt_at rfl (by omega) (by omega))) ?_
  refine hcons (kConvF (isX rfl) tu3 (denX rfl) (fI64 (by omega) (by omega))) ?_
  refine hcons (kShlM 8 256 rfl (isX rfl) (isZ (m := 8) rfl) (denX rfl) rfl (by decide) rfl (fI64 (by omega) (by omega))) ?_
  refine hcons (kAdd (isZ (m := 8) rfl) (isX rfl) (denX rfl) rfl (fI64 (by omega) (by omega))) ?_
  refine hcons (kIdxE (i := 5) (isX rfl) (isZ (m := 5) rfl) (denX rfl) rfl (by first | omega | (simp only [List.length_append, List.length_cons, List.length_nil, List.length_take, List.length_drop, Int.natCast_add] at *; omega)) (bt_at rfl (by omega) (by omega))) ?_
  refine hcons (kConvF (isX rfl) tu3 (denX rfl) (fI64 (by omega) (by omega))) ?_
  refine hcons (kAdd (isX rfl) (isX rfl) (denX rfl) rfl (fI64 (by omega) (by omega))) ?_
  refine hcons (kIdxE (i := 6) (isX rfl) (isZ (m := 6) rfl) (denZ (m := 5) rfl) rfl (by first | omega | (simp only [List.length_append, List.length_cons, List.length_nil, List.length_take, List.length_drop, Int.natCast_add] at *; omega)) (bt_at rfl (by omega) (by omega))) ?_
  refine hcons (kAdd (isX rfl) (isZ (m := 5) rfl) (denX rfl) rfl (fI64 (by omega) (by omega))) ?_
  refine hcons (kLt (isX rfl) (isX rfl) (decide_eq_false (by omega))) ?_
  refine hcons (kIdxE (i := 1) (isX rfl) (isZ (m := 1) rfl) (denX rfl) rfl (by first | omega | (simp only [List.length_append, List.length_cons, List.length_nil, List.length_take, List.length_drop, Int.natCast_add] at *; omega)) (bt_at rfl (by omega) (by omega))) ?_
  refine hcons (kEqI (isX rfl) (isZ (m := 0) rfl) (decide_eq_false (by omega))) ?_
  refine hcons (kConvF (isX rfl) tu3 (denX rfl) (fI64 (by omega) (by omega))) ?_
  refine hcons (kIdxE (i := 2) (isX rfl) (isZ (m := 2) rfl) (denX rfl) rfl (by first | omega | (simp only [List.length_append, List.length_cons, List.length_nil, List.length_take, List.length_drop, Int.natCast_add] at *; omega)) (bt_at rfl (by omega) (by omega))) ?_
  refine hcons (kConvF (isX rfl) tu3 (denX rfl) (fI64 (by omega) (by omega))) ?_
  refine hcons (kShlM 8 256 rfl (isX rfl) (isZ (m := 8) rfl) (denX rfl) rfl (by decide) rfl (fI64 (by omega) (by omega))) ?_
  refine hcons (kIdxE (i := 3) (isX rfl) (isZ (m := 3) rfl) (denX rfl) rfl (by first | omega | (simp only [List.length_append, List.length_cons, List.length_nil, List.length_take, List.length_drop, Int.natCast_add] at *; omega)) (bt_at rfl (by omega) (by omega))) ?_
  refine hcons (kConvF (isX rfl) tu3 (denX rfl) (fI64 (by omega) (by omega))) ?_
  refine hcons (kOrM 8 256 rfl (isX rfl) (isX rfl) (denX rfl) (by omega) (by omega) (fI64 (by omega) (by omega)) (fI64 (by omega) (by omega)) (by omega) (by omega) rfl (fI64 (by omega) (by omega))) ?_
  refine hcons (kSub (isX rfl) (isZ (m := 5) rfl) (denX rfl) rfl (fI64 (by omega) (by omega))) ?_
  refine hcons (kCut (isX rfl) (.inr ⟨_, _, rfl, (isZ (m := 8) rfl)⟩) (.inr ⟨_, _, rfl, (isX rfl)⟩) (p := [u8 1, u8 (t), u8 (id / 256), u8 (id % 256), u8 ((((c.length : Int)) / 256) % 256), u8 (((c.length : Int)) % 256), u8 5, u8 0]) (m := c) (q := ([u8 0, u8 0, u8 0, u8 0, u8 0] ++ more)) (by first | rfl | (simp only [List.append_assoc, List.cons_append, List.nil_append, List.append_nil]; done)) (by first | omega | (simp only [List.length_append, List.length_cons, List.length_nil, List.length_take, List.length_drop, Int.natCast_add] at *; omega)) (by first | omega | (simp only [List.length_append, List.length_cons, List.length_nil, List.length_take, List.length_drop, Int.natCast_add] at *; omega)) (denX rfl)) ?_
  refine hcons (kCut (isX rfl) (.inr ⟨_, _, rfl, (isX rfl)⟩) (.inl ⟨rfl, rfl⟩) (p := ([u8 1, u8 (t), u8 (id / 256), u8 (id % 256), u8 ((((c.length : Int)) / 256) % 256), u8 (((c.length : Int)) % 256), u8 5, u8 0] ++ (c ++ [u8 0, u8 0, u8 0, u8 0, u8 0]))) (m := more) (q := ([] : List UInt8)) (by first | rfl | (simp only [List.append_assoc, List.cons_append, List.nil_append, List.append_nil]; done)) (by first | omega | (simp only [List.length_append, List.length_cons, List.length_nil, List.length_take, List.length_drop, Int.natCast_add] at *; omega)) (by first | omega | (simp only [List.length_append, List.length_cons, List.length_nil, List.length_take, List.length_drop, Int.natCast_add] at *; omega)) (denX rfl)) ?_
  refine hcons (kConvF (isX rfl) tu3 (denX rfl) (fI64 (by omega) (by omega))) ?_
  refine hcons (kRem (isX rfl) (isX rfl) (denX rfl) (by omega) (by omega) rfl) ?_
  refine hcons (kTake (isX rfl) (isX rfl) (by first | omega | (simp only [List.length_append, List.length_cons, List.length_nil, List.length_take, List.length_drop, Int.natCast_add] at *; omega)) (by first | omega | (simp only [List.length_append, List.length_cons, List.length_nil, List.length_take, List.length_drop, Int.natCast_add] at *; omega)) (denX rfl)) ?_
  refine hcons (kNeS (isX rfl) (isSx (l := ([] : List UInt8)) 0 0 rfl) (bnF (by first | exact nilT (by first | omega | (simp only [List.length_append, List.length_cons, List.length_nil, List.length_take, List.length_drop, Int.natCast_add] at *; omega)) | exact nilF (by first | omega | (simp only [List.length_append, List.length_cons, List.length_nil, List.length_take, List.length_drop, Int.natCast_add] at *; omega)) | exact nilT' (by first | omega | (simp only [List.length_append, List.length_cons, List.length_nil, List.length_take, List.length_drop, Int.natCast_add] at *; omega)) | exact nilF' (by first | omega | (simp only [List.length_append, List.length_cons, List.length_nil, List.length_take, List.length_drop, Int.natCast_add] at *; omega))))) ?_
  refine hcons (kLenE (isX rfl) (denX rfl) (by first | omega | (simp only [List.length_append, List.length_cons, List.length_nil, List.length_take, List.length_drop, Int.natCast_add] at *; omega))) ?_
  refine hcons (kLt (isX rfl) (isZ (m := 8) rfl) (decide_eq_true (by omega))) ?_
  refine hcons (kEqT (isX rfl) (isX rfl) tu3 (decide_eq_true (by omega))) ?_
  refine hcons (kEqT (isX rfl) (isX rfl) tu3 (decide_eq_true (by omega))) ?_
  refine hcons (kEqTS (isX rfl) (isX rfl) tu9 (decide_eq_true rfl)) ?_
  refine hcons (kEqS (isX rfl) (isX rfl) (decide_eq_true rfl)) ?_
  exact hnil
theorem path9 (t : Int) (id : Int) (c : List UInt8) (more : List UInt8) (cut : Int) (b0 : 0 ≤ t) (b1 : t ≤ 255) (b2 : 0 ≤ id) (b3 : id ≤ 65535) (b4 : c.length ≤ 9223372036854775807) (b5 : more.length ≤ 9223372036854775807) (b6 : 0 ≤ cut) (b7 : cut ≤ 65535) (h0 : ¬ (2000 < (c.length : Int))) (h1 : ¬ (200 < (more.length : Int))) (h2 : ¬ (t = 0)) (h3 : ¬ ((-(max ((c.length : Int)) 0)) % 8 = 0)) (h4 : ¬ ((-(max ((c.length : Int)) 0)) % 8 = 1)) (h5 : ¬ ((-(max ((c.length : Int)) 0)) % 8 = 2)) (h6 : ¬ ((-(max ((c.length : Int)) 0)) % 8 = 3)) (h7 : ¬ ((-(max ((c.length : Int)) 0)) % 8 = 4)) (h8 : (-(max ((c.length : Int)) 0)) % 8 = 5) (h20 : (cut % ((c.length : Int) + 13)) = 0) (w : World) (hl : laidE w) : Calls Try.prog 3 #[.int .u8 t, .int .u16 id, St' c, .bool true, St' more, .int .u16 cut] w fun e w' => e = .returned (.bool true) ∧ Go.AX.Below w.heap.size w w' := by
  obtain ⟨fi, hfi, hb⟩ : ∃ fi, tabk.fn.get 3 = some fi ∧ fi.body.isSome = true := ⟨_, rfl, by kernel_rfl⟩
  exact runP (tb := tab9) ((tabkOk (nuL (nu9 t id c more cut)) (one9 t id c more cut)).hyps (hyOk9 t id c more cut b0 b1 b2 b3 b4 b5 b6 b7 h0 h1 h2 h3 h4 h5 h6 h7 h8 h20)) rfl hfi hb (run9 ) (args := [.int .u8 t, .int .u16 id, St' c, .bool true, St' more, .int .u16 cut]) (by simp only [RelL, Rel]; exact ⟨_, _, rfl, rfl, ⟨_, _, rfl, rfl, ⟨_, _, rfl, rfl, ⟨_, _, rfl, rfl, ⟨_, _, rfl, rfl, ⟨_, _, rfl, rfl, rfl⟩⟩⟩⟩⟩⟩) w hl
def hy10 : List (HK × AV) := [(.len (.x 2), .x 5),
  (.bin .gtr (.x 5) (.i .i64 (.ofNat 2000)), .b false),
  (.len (.x 3), .x 6),
  (.bin .gtr (.x 6) (.i .i64 (.ofNat 200)), .b false),
  (.bin .eql (.x 0) (.i .u8 (.ofNat 0)), .b false),
  (.conv 3 (.x 0), .x 7),
  (.conv 3 (.x 1), .x 8),
  (.mm true (.x 5) (.i .i64 (.ofNat 0)), .x 9),
  (.un .neg (.x 9), .x 10),
  (.bin .and (.x 10) (.i .i64 (.ofNat 7)), .i .i64 (.ofNat 5)),
  (.bin .geq (.x 7) (.i .i64 (.ofNat 1)), .b true),
  (.bin .leq (.x 7) (.i .i64 (.ofNat 255)), .b true),
  (.bin .geq (.x 8) (.i .i64 (.ofNat 0)), .b true),
  (.bin .leq (.x 8) (.i .i64 (.ofNat 65535)), .b true),
  (.bin .leq (.x 5) (.i .i64 (.ofNat 65535)), .b true),
  (.conv 5 (.x 7), .x 11),
  (.bin .shr (.x 8) (.i .u64 (.ofNat 8)), .x 12),
  (.conv 5 (.x 12), .x 13),
  (.conv 5 (.x 8), .x 14),
  (.bin .shr (.x 5) (.i .u64 (.ofNat 8)), .x 15),
  (.conv 5 (.x 15), .x 16),
  (.conv 5 (.x 5), .x 17),
  (.bytes [.i .u8 (.ofNat 1), .x 11, .x 13, .x 14, .x 16, .x 17, .i .u8 (.ofNat 5), .i .u8 (.ofNat 0)], .x 18),
  (.bin .add (.x 18) (.x 2), .x 19),
  (.bin .add (.x 19) (.s 5 0), .x 20),
  (.len (.x 20), .x 21),
  (.bin .lss (.x 21) (.i .i64 (.ofNat 8)), .b false),
  (.bin .rem (.x 21) (.i .i64 (.ofNat 8)), .x 22),
  (.bin .neq (.x 22) (.i .i64 (.ofNat 0)), .b false),
  (.bin .add (.x 20) (.x 3), .x 23),
  (.bin .neq (.x 23) (.s 0 0), .b true),
  (.idx (.x 23) (.i .i64 (.ofNat 0)), .i .u8 (.ofNat 1)),
  (.len (.x 23), .x 24),
  (.bin .lss (.x 24) (.i .i64 (.ofNat 8)), .b false),
  (.idx (.x 23) (.i .i64 (.ofNat 4)), .x 25),
  (.conv 3 (.x 25), .x 26),
  (.bin .shl (.x 26) (.i .u64 (.ofNat 8)), .x 27),
  (.bin .add (.i .i64 (.ofNat 8)) (.x 27), .x 28),
  (.idx (.x 23) (.i .i64 (.ofNat 5)), .x 29),
  (.conv 3 (.x 29), .x 30),
  (.bin .add (.x 28) (.x 30), .x 31),
  (.idx (.x 23) (.i .i64 (.ofNat 6)), .i .u8 (.ofNat 5)),
  (.bin .add (.x 31) (.i .i64 (.ofNat 5)), .x 32),
  (.bin .lss (.x 24) (.x 32), .b false),
  (.idx (.x 23) (.i .i64 (.ofNat 1)), .x 33),
  (.bin .eql (.x 33) (.i .u8 (.ofNat 0)), .b false),
  (.conv 3 (.x 33), .x 34),
  (.idx (.x 23) (.i .i64 (.ofNat 2)), .x 35),
  (.conv 3 (.x 35), .x 36),
  (.bin .shl (.x 36) (.i .u64 (.ofNat 8)), .x 37),
  (.idx (.x 23) (.i .i64 (.ofNat 3)), .x 38),
  (.conv 3 (.x 38), .x 39),
  (.bin .or (.x 37) (.x 39), .x 40),
  (.bin .sub (.x 32) (.i .i64 (.ofNat 5)), .x 41),
  (.sub (.x 23) (some (.i .i64 (.ofNat 8))) (some (.x 41)), .x 42),
  (.sub (.x 23) (some (.x 32)) none, .x 43),
  (.conv 3 (.x 4), .x 44),
  (.bin .rem (.x 44) (.x 21), .x 45),
  (.sub (.x 20) none (some (.x 45)), .x 46),
  (.bin .neq (.x 46) (.s 0 0), .b true),
  (.idx (.x 46) (.i .i64 (.ofNat 0)), .i .u8 (.ofNat 1)),
  (.len (.x 46), .x 47),
  (.bin .lss (.x 47) (.i .i64 (.ofNat 8)), .b true),
  (.eq 3 (.x 34) (.x 7), .b true),
  (.eq 3 (.x 40) (.x 8), .b true),
  (.eq 9 (.x 42) (.x 2), .b true),
  (.bin .eql (.x 43) (.x 3), .b true)]
noncomputable def tab10 : Tab := { tabk with hyp := hy10 }
theorem run10 : okB (call tab10 9000 3 [.x 0, .x 1, .x 2, .b true, .x 3, .x 4] ⟨H0 , 1, 0, 0⟩) = true := by kernel_rfl
def nu10 (t : Int) (id : Int) (c : List UInt8) (more : List UInt8) (cut : Int) : List Value := [.int .u8 (t),
  .int .u16 (id),
  St' c,
  St' more,
  .int .u16 (cut),
  .int .i64 ((c.length : Int)),
  .int .i64 ((more.length : Int)),
  .int .i64 (t),
  .int .i64 (id),
  .int .i64 (max ((c.length : Int)) 0),
  .int .i64 (-(max ((c.length : Int)) 0)),
  .int .u8 (t),
  .int .i64 (id / 256),
  .int .u8 (id / 256),
  .int .u8 (id % 256),
  .int .i64 (((c.length : Int)) / 256),
  .int .u8 ((((c.length : Int)) / 256) % 256),
  .int .u8 (((c.length : Int)) % 256),
  St' ([u8 1, u8 (t), u8 (id / 256), u8 (id % 256), u8 ((((c.length : Int)) / 256) % 256), u8 (((c.length : Int)) % 256), u8 5, u8 0]),
  St' (([u8 1, u8 (t), u8 (id / 256), u8 (id % 256), u8 ((((c.length : Int)) / 256) % 256), u8 (((c.length : Int)) % 256), u8 5, u8 0] ++ c)),
  St' (([u8 1, u8 (t), u8 (id / 256), u8 (id % 256), u8 ((((c.length : Int)) / 256) % 256), u8 (((c.length : Int)) % 256), u8 5, u8 0] ++ (c ++ [u8 0, u8 0, u8 0, u8 0, u8 0]))),
  .int .i64 ((c.length : Int) + 13),
  .int .i64 (((c.length : Int) + 13) % 8),
  St' (([u8 1, u8 (t), u8 (id / 256), u8 (id % 256), u8 ((((c.length : Int)) / 256) % 256), u8 (((c.length : Int)) % 256), u8 5, u8 0] ++ (c ++ ([u8 0, u8 0, u8 0, u8 0, u8 0] ++ more)))),
  .int .i64 ((c.length : Int) + (more.length : Int) + 13),
  .int .u8 ((((c.length : Int)) / 256) % 256),
  .int .i64 ((((c.length : Int)) / 256) % 256),
  .int .i64 (((((c.length : Int)) / 256) % 256) * 256),
  .int .i64 (8 + (((((c.length : Int)) / 256) % 256) * 256)),
  .int .u8 (((c.length : Int)) % 256),
  .int .i64 (((c.length : Int)) % 256),
  .int .i64 ((8 + (((((c.length : Int)) / 256) % 256) * 256)) + (((c.length : Int)) % 256)),
  .int .i64 (((8 + (((((c.length : Int)) / 256) % 256) * 256)) + (((c.length : Int)) % 256)) + 5),
  .int .u8 (t),
  .int .i64 (t),
  .int .u8 (id / 256),
  .int .i64 (id / 256),
  .int .i64 ((id / 256) * 256),
  .int .u8 (id % 256),
  .int .i64 (id % 256),
  .int .i64 (((id / 256) * 256) + (id % 256)),
  .int .i64 ((((8 + (((((c.length : Int)) / 256) % 256) * 256)) + (((c.length : Int)) % 256)) + 5) - 5),
  St' c,
  St' more,
  .int .i64 (cut),
  .int .i64 (cut % ((c.length : Int) + 13)),
  St' ((List.take (cut % ((c.length : Int) + 13)).toNat (([u8 1, u8 (t), u8 (id / 256), u8 (id % 256), u8 ((((c.length : Int)) / 256) % 256), u8 (((c.length : Int)) % 256), u8 5, u8 0] ++ (c ++ [u8 0, u8 0, u8 0, u8 0, u8 0]))))),
  .int .i64 ((cut % ((c.length : Int) + 13)))]
theorem one10 (t : Int) (id : Int) (c : List UInt8) (more : List UInt8) (cut : Int) : ∀ j, (nuL (nu10 t id c more cut) j).oneCell' = true := nuL_one (l := nu10 t id c more cut) rfl
set_option maxHeartbeats 2000000 in
theorem hyOk10 (t : Int) (id : Int) (c : List UInt8) (more : List UInt8) (cut : Int) (b0 : 0 ≤ t) (b1 : t ≤ 255) (b2 : 0 ≤ id) (b3 : id ≤ 65535) (b4 : c.length ≤ 9223372036854775807) (b5 : more.length ≤ 9223372036854775807) (b6 : 0 ≤ cut) (b7 : cut ≤ 65535) (h0 : ¬ (2000 < (c.length : Int))) (h1 : ¬ (200 < (more.length : Int))) (h2 : ¬ (t = 0)) (h3 : ¬ ((-(max ((c.length : Int)) 0)) % 8 = 0)) (h4 : ¬ ((-(max ((c.length : Int)) 0)) % 8 = 1)) (h5 : ¬ ((-(max ((c.length : Int)) 0)) % 8 = 2)) (h6 : ¬ ((-(max ((c.length : Int)) 0)) % 8 = 3)) (h7 : ¬ ((-(max ((c.length : Int)) 0)) % 8 = 4)) (h8 : (-(max ((c.length : Int)) 0)) % 8 = 5) (h20 : ¬ ((cut % ((c.length : Int) + 13)) = 0)) (h21 : (cut % ((c.length : Int) + 13)) < 8) : ∀ k r, (k, r) ∈ hy10 → HOk (cx (nuL (nu10 t id c more cut)) (one10 t id c more cut) 0 laidE laidE_stab) k r := by
  have := Int.emod_nonneg cut (show ((c.length : Int) + 13) ≠ 0 by omega); have := Int.emod_lt_of_pos cut (show 0 < ((c.length : Int) + 13) by omega)
  unfold hy10
  refine hcons (kLenE (isX rfl) (denX rfl) (by first | omega | (simp only [List.length_append, List.length_cons, List.length_nil, List.length_take, List.length_drop, Int.natCast_add] at *; omega))) ?_
  refine hcons (kGt (isX rfl) (isZ (m := 2000) rfl) (decide_eq_false (by omega))) ?_
  refine hcons (kLenE (isX rfl) (denX rfl) (by first | omega | (simp only [List.length_append, List.length_cons, List.length_nil, List.length_take, List.length_drop, Int.natCast_add] at *; omega))) ?_
  refine hcons (kGt (isX rfl) (isZ (m := 200) rfl) (decide_eq_false (by omega))) ?_
  refine hcons (kEqI (isX rfl) (isZ (m := 0) rfl) (decide_eq_false (by omega))) ?_
  refine hcons (kConvF (isX rfl) tu3 (denX rfl) (fI64 (by omega) (by omega))) ?_
  refine hcons (kConvF (isX rfl) tu3 (denX rfl) (fI64 (by omega) (by omega))) ?_
  refine hcons (kMax (isX rfl) (isZ (m := 0) rfl) (denX rfl) rfl) ?_
  refine hcons (kNeg (isX rfl) (denX rfl) rfl (fI64 (by omega) (by omega))) ?_
  refine hcons (kAndG 3 8 rfl (by decide) (isX rfl) (isZ (m := 7) rfl) (denZ (m := 5) rfl) (fI64 (by omega) (by omega)) rfl (by omega) (fI64 (by omega) (by omega))) ?_
  refine hcons (kGe (isX rfl) (isZ (m := 1) rfl) (decide_eq_true (by omega))) ?_
  refine hcons (kLe (isX rfl) (isZ (m := 255) rfl) (decide_eq_true (by omega))) ?_
  refine hcons (kGe (isX rfl) (isZ (m := 0) rfl) (decide_eq_true (by omega))) ?_
  refine hcons (kLe (isX rfl) (isZ (m := 65535) rfl) (decide_eq_true (by omega))) ?_
  refine hcons (kLe (isX rfl) (isZ (m := 65535) rfl) (decide_eq_true (by omega))) ?_
  refine hcons (kConvF (isX rfl) tu5 (denX rfl) (fU8 (by omega) (by omega))) ?_
  refine hcons (kShrM 8 256 rfl (isX rfl) (isZ (m := 8) rfl) (denX rfl) rfl (by decide) (by omega) rfl) ?_
  refine hcons (kConvF (isX rfl) tu5 (denX rfl) (fU8 (by omega) (by omega))) ?_
  refine hcons (kConv8 (isX rfl) tu5 (denX rfl) rfl) ?_
  refine hcons (kShrM 8 256 rfl (isX rfl) (isZ (m := 8) rfl) (denX rfl) rfl (by decide) (by omega) rfl) ?_
  refine hcons (kConv8 (isX rfl) tu5 (denX rfl) rfl) ?_
  refine hcons (kConv8 (isX rfl) tu5 (denX rfl) rfl) ?_
  refine hcons (kBytesB (bs := [u8 1, u8 (t), u8 (id / 256), u8 (id % 256), u8 ((((c.length : Int)) / 256) % 256), u8 (((c.length : Int)) % 256), u8 5, u8 0]) (.cons (isB8 (isZ (m := 1) rfl) (by omega) (by omega)) (.cons (isB8 (isX rfl) (by omega) (by omega)) (.cons (isB8 (isX rfl) (by omega) (by omega)) (.cons (isB8 (isX rfl) (by omega) (by omega)) (.cons (isB8 (isX rfl) (by omega) (by omega)) (.cons (isB8 (isX rfl) (by omega) (by omega)) (.cons (isB8 (isZ (m := 5) rfl) (by omega) (by omega)) (.cons (isB8 (isZ (m := 0) rfl) (by omega) (by omega)) .nil)))))))) (denX rfl)) ?_
  refine hcons (kCat (isX rfl) (isX rfl) (denX rfl) (by first | rfl | (simp only [List.append_assoc, List.cons_append, List.nil_append, List.append_nil]; done)) (by first | omega | (simp only [List.length_append, List.length_cons, List.length_nil, List.length_take, List.length_drop, Int.natCast_add] at *; omega))) ?_
  refine hcons (kCat (isX rfl) (isSx (l := [u8 0, u8 0, u8 0, u8 0, u8 0]) 5 0 rfl) (denX rfl) (by first | rfl | (simp only [List.append_assoc, List.cons_append, List.nil_append, List.append_nil]; done)) (by first | omega | (simp only [List.length_append, List.length_cons, List.length_nil, List.length_take, List.length_drop, Int.natCast_add] at *; omega))) ?_
  refine hcons (kLenE (isX rfl) (denX rfl) (by first | omega | (simp only [List.length_append, List.length_cons, List.length_nil, List.length_take, List.length_drop, Int.natCast_add] at *; omega))) ?_
  refine hcons (kLt (isX rfl) (isZ (m := 8) rfl) (decide_eq_false (by omega))) ?_
  refine hcons (kRem (isX rfl) (isZ (m := 8) rfl) (denX rfl) (by omega) (by omega) rfl) ?_
  refine hcons (kNeI (isX rfl) (isZ (m := 0) rfl) (neF (by omega))) ?_
  refine hcons (kCat (isX rfl) (isX rfl) (denX rfl) (by first | rfl | (simp only [List.append_assoc, List.cons_append, List.nil_append, List.append_nil]; done)) (by first | omega | (simp only [List.length_append, List.length_cons, List.length_nil, List.length_take, List.length_drop, Int.natCast_add] at *; omega))) ?_
  refine hcons (kNeS (isX rfl) (isSx (l := ([] : List UInt8)) 0 0 rfl) (bnT (by first | exact nilT (by first | omega | (simp only [List.length_append, List.length_cons, List.length_nil, List.length_take, List.length_drop, Int.natCast_add] at *; omega)) | exact nilF (by first | omega | (simp only [List.length_append, List.length_cons, List.length_nil, List.length_take, List.length_drop, Int.natCast_add] at *; omega)) | exact nilT' (by first | omega | (simp only [List.length_append, List.length_cons, List.length_nil, List.length_take, List.length_drop, Int.natCast_add] at *; omega)) | exact nilF' (by first | omega | (simp only [List.length_append, List.length_cons, List.length_nil, List.length_take, List.length_drop, Int.natCast_add] at *; omega))))) ?_
  refine hcons (kIdxE (i := 0) (isX rfl) (isZ (m := 0) rfl) (denZ (m := 1) rfl) rfl (by first | omega | (simp only [List.length_append, List.length_cons, List.length_nil, List.length_take, List.length_drop, Int.natCast_add] at *; omega)) (bt_at rfl (by omega) (by omega))) ?_
  refine hcons (kLenE (isX rfl) (denX rfl) (by first | omega | (simp only [List.length_append, List.length_cons, List.length_nil, List.length_take, List.length_drop, Int.natCast_add] at *; omega))) ?_
  refine hcons (kLt (isX rfl) (isZ (m := 8) rfl) (decide_eq_false (by omega))) ?_
  refine hcons (kIdxE (i := 4) (isX rfl) (isZ (m := 4) rfl) (denX rfl) rfl (by first | omega | (simp only [List.length_append, List.length_cons, List.length_nil, List.length_take, List.length_drop, Int.natCast_add] at *; omega)) (bt_at rfl (by omega) (by omega))) ?_
  refine hcons (kConvF (isX rfl) tu3 (denX rfl) (fI64 (by omega) (by omega))) ?_
  refine hcons (kShlM 8 256 rfl (isX rfl) (isZ (m := 8) rfl) (denX rfl) rfl (by decide) rfl (fI64 (by omega) (by omega))) ?_
  refine hcons (kAdd (isZ (m := 8) rfl) (isX rfl) (denX rfl) rfl (fI64 (by omega) (by omega))) ?_
  refine hcons (kIdxE (i := 5) (isX rfl) (isZ (m := 5) rfl) (denX rfl) rfl (by first | omega | (simp only [List.length_append, List.length_cons, List.length_nil, List.length_take, List.length_drop, Int.natCast_add] at *; omega)) (bt_at rfl (by omega) (by omega))) ?_
  refine hcons (kConvF (isX rfl) tu3 (denX rfl) (fI64 (by omega) (by omega))) ?_
  refine hcons (kAdd (isX rfl) (isX rfl) (denX rfl) rfl (fI64 (by omega) (by omega))) ?_
  refine hcons (kIdxE (i := 6) (isX rfl) (isZ (m := 6) rfl) (denZ (m := 5) rfl) rfl (by first | omega | (simp only [List.length_append, List.length_cons, List.length_nil, List.length_take, List.length_drop, Int.natCast_add] at *; omega)) (bt_at rfl (by omega) (by omega))) ?_
  refine hcons (kAdd (isX rfl) (isZ (m := 5) rfl) (denX rfl) rfl (fI64 (by omega) (by omega))) ?_
  refine hcons (kLt (isX rfl) (isX rfl) (decide_eq_false (by omega))) ?_
  refine hcons (kIdxE (i := 1) (isX rfl) (isZ (m := 1) rfl) (denX rfl) rfl (by first | omega | (simp only [List.length_append, List.length_cons, List.length_nil, List.length_take, List.length_drop, Int.natCast_add] at *; omega)) (bt_at rfl (by omega) (by omega))) ?_
  refine hcons (kEqI (isX rfl) (isZ (m := 0) rfl) (decide_eq_false (by omega))) ?_
  refine hcons (kConvF (isX rfl) tu3 (denX rfl) (fI64 (by omega) (by omega))) ?_
  refine hcons (kIdxE (i := 2) (isX rfl) (isZ (m := 2) rfl) (denX rfl) rfl (by first | omega | (simp only [List.length_append, List.length_cons, List.length_nil, List.length_take, List.length_drop, Int.natCast_add] at *; omega)) (bt_at rfl (by omega) (by omega))) ?_
  refine hcons (kConvF (isX rfl) tu3 (denX rfl) (fI64 (by omega) (by omega))) ?_
  refine hcons (kShlM 8 256 rfl (isX rfl) (isZ (m := 8) rfl) (denX rfl) rfl (by decide) rfl (fI64 (by omega) (by omega))) ?_
  refine hcons (kIdxE (i := 3) (isX rfl) (isZ (m := 3) rfl) (denX rfl) rfl (by first | omega | (simp only [List.length_append, List.length_cons, List.length_nil, List.length_take, List.length_drop, Int.natCast_add] at *; omega)) (bt_at rfl (by omega) (by omega))) ?_
  refine hcons (kConvF (isX rfl) tu3 (denX rfl) (fI64 (by omega) (by omega))) ?_
  refine hcons (kOrM 8 256 rfl (isX rfl) (isX rfl) (denX rfl) (by omega) (by omega) (fI64 (by omega) (by omega)) (fI64 (by omega) (by omega)) (by omega) (by omega) rfl (fI64 (by omega) (by omega))) ?_
  refine hcons (kSub (isX rfl) (isZ (m := 5) rfl) (denX rfl) rfl (fI64 (by omega) (by omega))) ?_
  refine hcons (kCut (isX rfl) (.inr ⟨_, _, rfl, (isZ (m := 8) rfl)⟩) (.inr ⟨_, _, rfl, (isX rfl)⟩) (p := [u8 1, u8 (t), u8 (id / 256), u8 (id % 256), u8 ((((c.length : Int)) / 256) % 256), u8 (((c.length : Int)) % 256), u8 5, u8 0]) (m := c) (q := ([u8 0, u8 0, u8 0, u8 0, u8 0] ++ more)) (by first | rfl | (simp only [List.append_assoc, List.cons_append, List.nil_append, List.append_nil]; done)) (by first | omega | (simp only [List.length_append, List.length_cons, List.length_nil, List.length_take, List.length_drop, Int.natCast_add] at *; omega)) (by first | omega | (simp only [List.length_append, List.length_cons, List.length_nil, List.length_take, List.length_drop, Int.natCast_add] at *; omega)) (denX rfl)) ?_
  refine hcons (kCut (isX rfl) (.inr ⟨_, _, rfl, (isX rfl)⟩) (.inl ⟨rfl, rfl⟩) (p := ([u8 1, u8 (t), u8 (id / 256), u8 (id % 256), u8 ((((c.length : Int)) / 256) % 256), u8 (((c.length : Int)) % 256), u8 5, u8 0] ++ (c ++ [u8 0, u8 0, u8 0, u8 0, u8 0]))) (m := more) (q := ([] : List UInt8)) (by first | rfl | (simp only [List.append_assoc, List.cons_append, List.nil_append, List.append_nil]; done)) (by first | omega | (simp only [List.length_append, List.length_cons, List.length_nil, List.length_take, List.length_drop, Int.natCast_add] at *; omega)) (by first | omega | (simp only [List.length_append, List.length_cons, List.length_nil, List.length_take, List.length_drop, Int.natCast_add] at *; omega)) (denX rfl)) ?_
  refine hcons (kConvF (isX rfl) tu3 (denX rfl) (fI64 (by omega) (by omega))) ?_
  refine hcons (kRem (isX rfl) (isX rfl) (denX rfl) (by omega) (by omega) rfl) ?_
  refine hcons (kTake (isX rfl) (isX rfl) (by first | omega | (simp only [List.length_append, List.length_cons, List.length_nil, List.length_take, List.length_drop, Int.natCast_add] at *; omega)) (by first | omega | (simp only [List.length_append, List.length_cons, List.length_nil, List.length_take, List.length_drop, Int.natCast_add] at *; omega)) (denX rfl)) ?_
  refine hcons (kNeS (isX rfl) (isSx (l := ([] : List UInt8)) 0 0 rfl) (bnT (by first | exact nilT (by first | omega | (simp only [List.length_append, List.length_cons, List.length_nil, List.length_take, List.length_drop, Int.natCast_add] at *; omega)) | exact nilF (by first | omega | (simp only [List.length_append, List.length_cons, List.length_nil, List.length_take, List.length_drop, Int.natCast_add] at *; omega)) | exact nilT' (by first | omega | (simp only [List.length_append, List.length_cons, List.length_nil, List.length_take, List.length_drop, Int.natCast_add] at *; omega)) | exact nilF' (by first | omega | (simp only [List.length_append, List.length_cons, List.length_nil, List.length_take, List.length_drop, Int.natCast_add] at *; omega))))) ?_
  refine hcons (kIdxE (i := 0) (isX rfl) (isZ (m := 0) rfl) (denZ (m := 1) rfl) rfl (by first | omega | (simp only [List.length_append, List.length_cons, List.length_nil, List.length_take, List.length_drop, Int.natCast_add] at *; omega)) ((bt_take (by omega)).trans (bt_at rfl (by omega) (by omega)))) ?_
  refine hcons (kLenE (isX rfl) (denX rfl) (by first | omega | (simp only [List.length_append, List.length_cons, List.length_nil, List.length_take, List.length_drop, Int.natCast_add] at *; omega))) ?_
  refine hcons (kLt (isX rfl) (isZ (m := 8) rfl) (decide_eq_true (by omega))) ?_
  refine hcons (kEqT (isX rfl) (isX rfl) tu3 (decide_eq_true (by omega))) ?_
  refine hcons (kEqT (isX rfl) (isX rfl) tu3 (decide_eq_true (by omega))) ?_
  refine hcons (kEqTS (isX rfl) (isX rfl) tu9 (decide_eq_true rfl)) ?_
  refine hcons (kEqS (isX rfl) (isX rfl) (decide_eq_true rfl)) ?_
  exact hnil
theorem path10 (t : Int) (id : Int) (c : List UInt8) (more : List UInt8) (cut : Int) (b0 : 0 ≤ t) (b1 : t ≤ 255) (b2 : 0 ≤ id) (b3 : id ≤ 65535) (b4 : c.length ≤ 9223372036854775807) (b5 : more.length ≤ 9223372036854775807) (b6 : 0 ≤ cut) (b7 : cut ≤ 65535) (h0 : ¬ (2000 < (c.length : Int))) (h1 : ¬ (200 < (more.length : Int))) (h2 : ¬ (t = 0)) (h3 : ¬ ((-(max ((c.length : Int)) 0)) % 8 = 0)) (h4 : ¬ ((-(max ((c.length : Int)) 0)) % 8 = 1)) (h5 : ¬ ((-(max ((c.length : Int)) 0)) % 8 = 2)) (h6 : ¬ ((-(max ((c.length : Int)) 0)) % 8 = 3)) (h7 : ¬ ((-(max ((c.length : Int)) 0)) % 8 = 4)) (h8 : (-(max ((c.length : Int)) 0)) % 8 = 5) (h20 : ¬ ((cut % ((c.length : Int) + 13)) = 0)) (h21 : (cut % ((c.length : Int) + 13)) < 8) (w : World) (hl : laidE w) : Calls Try.prog 3 #[.int .u8 t, .int .u16 id, St' c, .bool true, St' more, .int .u16 cut] w fun e w' => e = .returned (.bool true) ∧ Go.AX.Below w.heap.size w w' := by
  obtain ⟨fi, hfi, hb⟩ : ∃ fi, tabk.fn.get 3 = some fi ∧ fi.body.isSome = true := ⟨_, rfl, by kernel_rfl⟩
  exact runP (tb := tab10) ((tabkOk (nuL (nu10 t id c more cut)) (one10 t id c more cut)).hyps (hyOk10 t id c more cut b0 b1 b2 b3 b4 b5 b6 b7 h0 h1 h2 h3 h4 h5 h6 h7 h8 h20 h21)) rfl hfi hb (run10 ) (args := [.int .u8 t, .int .u16 id, St' c, .bool true, St' more, .int .u16 cut]) (by simp only [RelL, Rel]; exact ⟨_, _, rfl, rfl, ⟨_, _, rfl, rfl, ⟨_, _, rfl, rfl, ⟨_, _, rfl, rfl, ⟨_, _, rfl, rfl, ⟨_, _, rfl, rfl, rfl⟩⟩⟩⟩⟩⟩) w hl
def hy11 : List (HK × AV) := [(.len (.x 2), .x 5),
  (.bin .gtr (.x 5) (.i .i64 (.ofNat 2000)), .b false),
  (.len (.x 3), .x 6),
  (.bin .gtr (.x 6) (.i .i64 (.ofNat 200)), .b false),
  (.bin .eql (.x 0) (.i .u8 (.ofNat 0)), .b false),
  (.conv 3 (.x 0), .x 7),
  (.conv 3 (.x 1), .x 8),
  (.mm true (.x 5) (.i .i64 (.ofNat 0)), .x 9),
  (.un .neg (.x 9), .x 10),
  (.bin .and (.x 10) (.i .i64 (.ofNat 7)), .i .i64 (.ofNat 5)),
  (.bin .geq (.x 7) (.i .i64 (.ofNat 1)), .b true),
  (.bin .leq (.x 7) (.i .i64 (.ofNat 255)), .b true),
  (.bin .geq (.x 8) (.i .i64 (.ofNat 0)), .b true),
  (.bin .leq (.x 8) (.i .i64 (.ofNat 65535)), .b true),
  (.bin .leq (.x 5) (.i .i64 (.ofNat 65535)), .b true),
  (.conv 5 (.x 7), .x 11),
  (.bin .shr (.x 8) (.i .u64 (.ofNat 8)), .x 12),
  (.conv 5 (.x 12), .x 13),
  (.conv 5 (.x 8), .x 14),
  (.bin .shr (.x 5) (.i .u64 (.ofNat 8)), .x 15),
  (.conv 5 (.x 15), .x 16),
  (.conv 5 (.x 5), .x 17),
  (.bytes [.i .u8 (.ofNat 1), .x 11, .x 13, .x 14, .x 16, .x 17, .i .u8 (.ofNat 5), .i .u8 (.ofNat 0)], .x 18),
  (.bin .add (.x 18) (.x 2), .x 19),
  (.bin .add (.x 19) (.s 5 0), .x 20),
  (.len (.x 20), .x 21),
  (.bin .lss (.x 21) (.i .i64 (.ofNat 8)), .b false),
  (.bin .rem (.x 21) (.i .i64 (.ofNat 8)), .x 22),
  (.bin .neq (.x 22) (.i .i64 (.ofNat 0)), .b false),
  (.bin .add (.x 20) (.x 3), .x 23),
  (.bin .neq (.x 23) (.s 0 0), .b true),
  (.idx (.x 23) (.i .i64 (.ofNat 0)), .i .u8 (.ofNat 1)),
  (.len (.x 23), .x 24),
  (.bin .lss (.x 24) (.i .i64 (.ofNat 8)), .b false),
  (.idx (.x 23) (.i .i64 (.ofNat 4)), .x 25),
  (.conv 3 (.x 25), .x 26),
  (.bin .shl (.x 26) (.i .u64 (.ofNat 8)), .x 27),
  (.bin .add (.i .i64 (.ofNat 8)) (.x 27), .x 28),
  (.idx (.x 23) (.i .i64 (.ofNat 5)), .x 29),
  (.conv 3 (.x 29), .x 30),
  (.bin .add (.x 28) (.x 30), .x 31),
  (.idx (.x 23) (.i .i64 (.ofNat 6)), .i .u8 (.ofNat 5)),
  (.bin .add (.x 31) (.i .i64 (.ofNat 5)), .x 32),
  (.bin .lss (.x 24) (.x 32), .b false),
  (.idx (.x 23) (.i .i64 (.ofNat 1)), .x 33),
  (.bin .eql (.x 33) (.i .u8 (.ofNat 0)), .b false),
  (.conv 3 (.x 33), .x 34),
  (.idx (.x 23) (.i .i64 (.ofNat 2)), .x 35),
  (.conv 3 (.x 35), .x 36),
  (.bin .shl (.x 36) (.i .u64 (.ofNat 8)), .x 37),
  (.idx (.x 23) (.i .i64 (.ofNat 3)), .x 38),
  (.conv 3 (.x 38), .x 39),
  (.bin .or (.x 37) (.x 39), .x 40),
  (.bin .sub (.x 32) (.i .i64 (.ofNat 5)), .x 41),
  (.sub (.x 23) (some (.i .i64 (.ofNat 8))) (some (.x 41)), .x 42),
  (.sub (.x 23) (some (.x 32)) none, .x 43),
  (.conv 3 (.x 4), .x 44),
  (.bin .rem (.x 44) (.x 21), .x 45),
  (.sub (.x 20) none (some (.x 45)), .x 46),
  (.bin .neq (.x 46) (.s 0 0), .b true),
  (.idx (.x 46) (.i .i64 (.ofNat 0)), .i .u8 (.ofNat 1)),
  (.len (.x 46), .x 47),
  (.bin .lss (.x 47) (.i .i64 (.ofNat 8)), .b false),
  (.idx (.x 46) (.i .i64 (.ofNat 4)), .x 48),
  (.conv 3 (.x 48), .x 49),
  (.bin .shl (.x 49) (.i .u64 (.ofNat 8)), .x 50),
  (.bin .add (.i .i64 (.ofNat 8)) (.x 50), .x 51),
  (.idx (.x 46) (.i .i64 (.ofNat 5)), .x 52),
  (.conv 3 (.x 52), .x 53),
  (.bin .add (.x 51) (.x 53), .x 54),
  (.idx (.x 46) (.i .i64 (.ofNat 6)), .i .u8 (.ofNat 5)),
  (.bin .add (.x 54) (.i .i64 (.ofNat 5)), .x 55),
  (.bin .lss (.x 47) (.x 55), .b true),
  (.eq 3 (.x 34) (.x 7), .b true),
  (.eq 3 (.x 40) (.x 8), .b true),
  (.eq 9 (.x 42) (.x 2), .b true),
  (.bin .eql (.x 43) (.x 3), .b true)]
noncomputable def tab11 : Tab := { tabk with hyp := hy11 }
theorem run11 : okB (call tab11 9000 3 [.x 0, .x 1, .x 2, .b true, .x 3, .x 4] ⟨H0 , 1, 0, 0⟩) = true := by kernel_rfl
def nu11 (t : Int) (id : Int) (c : List UInt8) (more : List UInt8) (cut : Int) : List Value := [.int .u8 (t),
  .int .u16 (id),
  St' c,
  St' more,
  .int .u16 (cut),
  .int .i64 ((c.length : Int)),
  .int .i64 ((more.length : Int)),
  .int .i64 (t),
  .int .i64 (id),
  .int .i64 (max ((c.length : Int)) 0),
  .int .i64 (-(max ((c.length : Int)) 0)),
  .int .u8 (t),
  .int .i64 (id / 256),
  .int .u8 (id / 256),
  .int .u8 (id % 256),
  .int .i64 (((c.length : Int)) / 256),
  .int .u8 ((((c.length : Int)) / 256) % 256),
  .int .u8 (((c.length : Int)) % 256),
  St' ([u8 1, u8 (t), u8 (id / 256), u8 (id % 256), u8 ((((c.length : Int)) / 256) % 256), u8 (((c.length : Int)) % 256), u8 5, u8 0]),
  St' (([u8 1, u8 (t), u8 (id / 256), u8 (id % 256), u8 ((((c.length : Int)) / 256) % 256), u8 (((c.length : Int)) % 256), u8 5, u8 0] ++ c)),
  St' (([u8 1, u8 (t), u8 (id / 256), u8 (id % 256), u8 ((((c.length : Int)) / 256) % 256), u8 (((c.length : Int)) % 256), u8 5, u8 0] ++ (c ++ [u8 0, u8 0, u8 0, u8 0, u8 0]))),
  .int .i64 ((c.length : Int) + 13),
  .int .i64 (((c.length : Int) + 13) % 8),
  St' (([u8 1, u8 (t), u8 (id / 256), u8 (id % 256), u8 ((((c.length : Int)) / 256) % 256), u8 (((c.length : Int)) % 256), u8 5, u8 0] ++ (c ++ ([u8 0, u8 0, u8 0, u8 0, u8 0] ++ more)))),
  .int .i64 ((c.length : Int) + (more.length : Int) + 13),
  .int .u8 ((((c.length : Int)) / 256) % 256),
  .int .i64 ((((c.length : Int)) / 256) % 256),
  .int .i64 (((((c.length : Int)) / 256) % 256) * 256),
  .int .i64 (8 + (((((c.length : Int)) / 256) % 256) * 256)),
  .int .u8 (((c.length : Int)) % 256),
  .int .i64 (((c.length : Int)) % 256),
  .int .i64 ((8 + (((((c.length : Int)) / 256) % 256) * 256)) + (((c.length : Int)) % 256)),
  .int .i64 (((8 + (((((c.length : Int)) / 256) % 256) * 256)) + (((c.length : Int)) % 256)) + 5),
  .int .u8 (t),
  .int .i64 (t),
  .int .u8 (id / 256),
  .int .i64 (id / 256),
  .int .i64 ((id / 256) * 256),
  .int .u8 (id % 256),
  .int .i64 (id % 256),
  .int .i64 (((id / 256) * 256) + (id % 256)),
  .int .i64 ((((8 + (((((c.length : Int)) / 256) % 256) * 256)) + (((c.length : Int)) % 256)) + 5) - 5),
  St' c,
  St' more,
  .int .i64 (cut),
  .int .i64 (cut % ((c.length : Int) + 13)),
  St' ((List.take (cut % ((c.length : Int) + 13)).toNat (([u8 1, u8 (t), u8 (id / 256), u8 (id % 256), u8 ((((c.length : Int)) / 256) % 256), u8 (((c.length : Int)) % 256), u8 5, u8 0] ++ (c ++ [u8 0, u8 0, u8 0, u8 0, u8 0]))))),
  .int .i64 ((cut % ((c.length : Int) + 13))),
  .int .u8 ((((c.length : Int)) / 256) % 256),
  .int .i64 ((((c.length : Int)) / 256) % 256),
  .int .i64 (((((c.length : Int)) / 256) % 256) * 256),
  .int .i64 (8 + (((((c.length : Int)) / 256) % 256) * 256)),
  .int .u8 (((c.length : Int)) % 256),
  .int .i64 (((c.length : Int)) % 256),
  .int .i64 ((8 + (((((c.length : Int)) / 256) % 256) * 256)) + (((c.length : Int)) % 256)),
  .int .i64 (((8 + (((((c.length : Int)) / 256) % 256) * 256)) + (((c.length : Int)) % 256)) + 5)]
theorem one11 (t : Int) (id : Int) (c : List UInt8) (more : List UInt8) (cut : Int) : ∀ j, (nuL (nu11 t id c more cut) j).oneCell' = true := nuL_one (l := nu11 t id c more cut) rfl
set_option maxHeartbeats 2000000 in
theorem hyOk11 (t : Int) (id : Int) (c : List UInt8) (more : List UInt8) (cut : Int) (b0 : 0 ≤ t) (b1 : t ≤ 255) (b2 : 0 ≤ id) (b3 : id ≤ 65535) (b4 : c.length ≤ 9223372036854775807) (b5 : more.length ≤ 9223372036854775807) (b6 : 0 ≤ cut) (b7 : cut ≤ 65535) (h0 : ¬ (2000 < (c.length : Int))) (h1 : ¬ (200 < (more.length : Int))) (h2 : ¬ (t = 0)) (h3 : ¬ ((-(max ((c.length : Int)) 0)) % 8 = 0)) (h4 : ¬ ((-(max ((c.length : Int)) 0)) % 8 = 1)) (h5 : ¬ ((-(max ((c.length : Int)) 0)) % 8 = 2)) (h6 : ¬ ((-(max ((c.length : Int)) 0)) % 8 = 3)) (h7 : ¬ ((-(max ((c.length : Int)) 0)) % 8 = 4)) (h8 : (-(max ((c.length : Int)) 0)) % 8 = 5) (h20 : ¬ ((cut % ((c.length : Int) + 13)) = 0)) (h21 : ¬ ((cut % ((c.length : Int) + 13)) < 8)) : ∀ k r, (k, r) ∈ hy11 → HOk (cx (nuL (nu11 t id c more cut)) (one11 t id c more cut) 0 laidE laidE_stab) k r := by
  have := Int.emod_nonneg cut (show ((c.length : Int) + 13) ≠ 0 by omega); have := Int.emod_lt_of_pos cut (show 0 < ((c.length : Int) + 13) by omega)
  unfold hy11
  refine hcons (kLenE (isX rfl) (denX rfl) (by first | omega | (simp only [List.length_append, List.length_cons, List.length_nil, List.length_take, List.length_drop, Int.natCast_add] at *; omega))) ?_
  refine hcons (kGt (isX rfl) (isZ (m := 2000) rfl) (decide_eq_false (by omega))) ?_
  refine hcons (kLenE (isX rfl) (denX rfl) (by first | omega | (simp only [List.length_append, List.length_cons, List.length_nil, List.length_take, List.length_drop, Int.natCast_add] at *; omega))) ?_
  refine hcons (kGt (isX rfl) (isZ (m := 200) rfl) (decide_eq_false (by omega))) ?_
  refine hcons (kEqI (isX rfl) (isZ (m := 0) rfl) (decide_eq_false (by omega))) ?_
  refine hcons (kConvF (isX rfl) tu3 (denX rfl) (fI64 (by omega) (by omega))) ?_
  refine hcons (kConvF (isX rfl) tu3 (denX rfl) (fI64 (by omega) (by omega))) ?_
  refine hcons (kMax (isX rfl) (isZ (m := 0) rfl) (denX rfl) rfl) ?_
  refine hcons (kNeg (isX rfl) (denX rfl) rfl (fI64 (by omega) (by omega))) ?_
  refine hcons (kAndG 3 8 rfl (by decide) (isX rfl) (isZ (m := 7) rfl) (denZ (m := 5) rfl) (fI64 (by omega) (by omega)) rfl (by omega) (fI64 (by omega) (by omega))) ?_
  refine hcons (kGe (isX rfl) (isZ (m := 1) rfl) (decide_eq_true (by omega))) ?_
  refine hcons (kLe (isX rfl) (isZ (m := 255) rfl) (decide_eq_true (by omega))) ?_
  refine hcons (kGe (isX rfl) (isZ (m := 0) rfl) (decide_eq_true (by omega))) ?_
  refine hcons (kLe (isX rfl) (isZ (m := 65535) rfl) (decide_eq_true (by omega))) ?_
  refine hcons (kLe (isX rfl) (isZ (m := 65535) rfl) (decide_eq_true (by omega))) ?_
  refine hcons (kConvF (isX rfl) tu5 (denX rfl) (fU8 (by omega) (by omega))) ?_
  refine hcons (kShrM 8 256 rfl (isX rfl) (isZ (m := 8) rfl) (denX rfl) rfl (by decide) (by omega) rfl) ?_
  refine hcons (kConvF (isX rfl) tu5 (denX rfl) (fU8 (by omega) (by omega))) ?_
  refine hcons (kConv8 (isX rfl) tu5 (denX rfl) rfl) ?_
  refine hcons (kShrM 8 256 rfl (isX rfl) (isZ (m := 8) rfl) (denX rfl) rfl (by decide) (by omega) rfl) ?_
  refine hcons (kConv8 (isX rfl) tu5 (denX rfl) rfl) ?_
  refine hcons (kConv8 (isX rfl) tu5 (denX rfl) rfl) ?_
  refine hcons (kBytesB (bs := [u8 1, u8 (t), u8 (id / 256), u8 (id % 256), u8 ((((c.length : Int)) / 256) % 256), u8 (((c.length : Int)) % 256), u8 5, u8 0]) (.cons (isB8 (isZ (m := 1) rfl) (by omega) (by omega)) (.cons (isB8 (isX rfl) (by omega) (by omega)) (.cons (isB8 (isX rfl) (by omega) (by omega)) (.cons (isB8 (isX rfl) (by omega) (by omega)) (.cons (isB8 (isX rfl) (by omega) (by omega)) (.cons (isB8 (isX rfl) (by omega) (by omega)) (.cons (isB8 (isZ (m := 5) rfl) (by omega) (by omega)) (.cons (isB8 (isZ (m := 0) rfl) (by omega) (by omega)) .nil)))))))) (denX rfl)) ?_
  refine hcons (kCat (isX rfl) (isX rfl) (denX rfl) (by first | rfl | (simp only [List.append_assoc, List.cons_append, List.nil_append, List.append_nil]; done)) (by first | omega | (simp only [List.length_append, List.length_cons, List.length_nil, List.length_take, List.length_drop, Int.natCast_add] at *; omega))) ?_
  refine hcons (kCat (isX rfl) (isSx (l := [u8 0, u8 0, u8 0, u8 0, u8 0]) 5 0 rfl) (denX rfl) (by first | rfl | (simp only [List.append_assoc, List.cons_append, List.nil_append, List.append_nil]; done)) (by first | omega | (simp only [List.length_append, List.length_cons, List.length_nil, List.length_take, List.length_drop, Int.natCast_add] at *; omega))) ?_
  refine hcons (kLenE (isX rfl) (denX rfl) (by first | omega | (simp only [List.length_append, List.length_cons, List.length_nil, List.length_take, List.length_drop, Int.natCast_add] at *; omega))) ?_
  refine hcons (kLt (isX rfl) (isZ (m := 8) rfl) (decide_eq_false (by omega))) ?_
  refine hcons (kRem (isX rfl) (isZ (m := 8) rfl) (denX rfl) (by omega) (by omega) rfl) ?_
  refine hcons (kNeI (isX rfl) (isZ (m := 0) rfl) (neF (by omega))) ?_
  refine hcons (kCat (isX rfl) (isX rfl) (denX rfl) (by first | rfl | (simp only [List.append_assoc, List.cons_append, List.nil_append, List.append_nil]; done)) (by first | omega | (simp only [List.length_append, List.length_cons, List.length_nil, List.length_take, List.length_drop, Int.natCast_add] at *; omega))) ?_
  refine hcons (kNeS (isX rfl) (isSx (l := ([] : List UInt8)) 0 0 rfl) (bnT (by first | exact nilT (by first | omega | (simp only [List.length_append, List.length_cons, List.length_nil, List.length_take, List.length_drop, Int.natCast_add] at *; omega)) | exact nilF (by first | omega | (simp only [List.length_append, List.length_cons, List.length_nil, List.length_take, List.length_drop, Int.natCast_add] at *; omega)) | exact nilT' (by first | omega | (simp only [List.length_append, List.length_cons, List.length_nil, List.length_take, List.length_drop, Int.natCast_add] at *; omega)) | exact nilF' (by first | omega | (simp only [List.length_append, List.length_cons, List.length_nil, List.length_take, List.length_drop, Int.natCast_add] at *; omega))))) ?_
  refine hcons (kIdxE (i := 0) (isX rfl) (isZ (m := 0) rfl) (denZ (m := 1) rfl) rfl (by first | omega | (simp only [List.length_append, List.length_cons, List.length_nil, List.length_take, List.length_drop, Int.natCast_add] at *; omega)) (bt_at rfl (by omega) (by omega))) ?_
  refine hcons (kLenE (isX rfl) (denX rfl) (by first | omega | (simp only [List.length_append, List.length_cons, List.length_nil, List.length_take, List.length_drop, Int.natCast_add] at *; omega))) ?_
  refine hcons (kLt (isX rfl) (isZ (m := 8) rfl) (decide_eq_false (by omega))) ?_
  refine hcons (kIdxE (i := 4) (isX rfl) (isZ (m := 4) rfl) (denX rfl) rfl (by first | omega | (simp only [List.length_append, List.length_cons, List.length_nil, List.length_take, List.length_drop, Int.natCast_add] at *; omega)) (bt_at rfl (by omega) (by omega))) ?_
  refine hcons (kConvF (isX rfl) tu3 (denX rfl) (fI64 (by omega) (by omega))) ?_
  refine hcons (kShlM 8 256 rfl (isX rfl) (isZ (m := 8) rfl) (denX rfl) rfl (by decide) rfl (fI64 (by omega) (by omega))) ?_
  refine hcons (kAdd (isZ (m := 8) rfl) (isX rfl) (denX rfl) rfl (fI64 (by omega) (by omega))) ?_
  refine hcons (kIdxE (i := 5) (isX rfl) (isZ (m := 5) rfl) (denX rfl) rfl (by first | omega | (simp only [List.length_append, List.length_cons, List.length_nil, List.length_take, List.length_drop, Int.natCast_add] at *; omega)) (bt_at rfl (by omega) (by omega))) ?_
  refine hcons (kConvF (isX rfl) tu3 (denX rfl) (fI64 (by omega) (by omega))) ?_
  refine hcons (kAdd (isX rfl) (isX rfl) (denX rfl) rfl (fI64 (by omega) (by omega))) ?_
  refine hcons (kIdxE (i := 6) (isX rfl) (isZ (m := 6) rfl) (denZ (m := 5) rfl) rfl (by first | omega | (simp only [List.length_append, List.length_cons, List.length_nil, List.length_take, List.length_drop, Int.natCast_add] at *; omega)) (bt_at rfl (by omega) (by omega))) ?_
  refine hcons (kAdd (isX rfl) (isZ (m := 5) rfl) (denX rfl) rfl (fI64 (by omega) (by omega))) ?_
  refine hcons (kLt (isX rfl) (isX rfl) (decide_eq_false (by omega))) ?_
  refine hcons (kIdxE (i := 1) (isX rfl) (isZ (m := 1) rfl) (denX rfl) rfl (by first | omega | (simp only [List.length_append, List.length_cons, List.length_nil, List.length_take, List.length_drop, Int.natCast_add] at *; omega)) (bt_at rfl (by omega) (by omega))) ?_
  refine hcons (kEqI (isX rfl) (isZ (m := 0) rfl) (decide_eq_false (by omega))) ?_
  refine hcons (kConvF (isX rfl) tu3 (denX rfl) (fI64 (by omega) (by omega))) ?_
  refine hcons (kIdxE (i := 2) (isX rfl) (isZ (m := 2) rfl) (denX rfl) rfl (by first | omega | (simp only [List.length_append, List.length_cons, List.length_nil, List.length_take, List.length_drop, Int.natCast_add] at *; omega)) (bt_at rfl (by omega) (by omega))) ?_
  refine hcons (kConvF (isX rfl) tu3 (denX rfl) (fI64 (by omega) (by omega))) ?_
  refine hcons (kShlM 8 256 rfl (isX rfl) (isZ (m := 8) rfl) (denX rfl) rfl (by decide) rfl (fI64 (by omega) (by omega))) ?_
  refine hcons (kIdxE (i := 3) (isX rfl) (isZ (m := 3) rfl) (denX rfl) rfl (by first | omega | (simp only [List.length_append, List.length_cons, List.length_nil, List.length_take, List.length_drop, Int.natCast_add] at *; omega)) (bt_at rfl (by omega) (by omega))) ?_
  refine hcons (kConvF (isX rfl) tu3 (denX rfl) (fI64 (by omega) (by omega))) ?_
  refine hcons (kOrM 8 256 rfl (isX rfl) (isX rfl) (denX rfl) (by omega) (by omega) (fI64 (by omega) (by omega)) (fI64 (by omega) (by omega)) (by omega) (by omega) rfl (fI64 (by omega) (by omega))) ?_
  refine hcons (kSub (isX rfl) (isZ (m := 5) rfl) (denX rfl) rfl (fI64 (by omega) (by omega))) ?_
  refine hcons (kCut (isX rfl) (.inr ⟨_, _, rfl, (isZ (m := 8) rfl)⟩) (.inr ⟨_, _, rfl, (isX rfl)⟩) (p := [u8 1, u8 (t), u8 (id / 256), u8 (id % 256), u8 ((((c.length : Int)) / 256) % 256), u8 (((c.length : Int)) % 256), u8 5, u8 0]) (m := c) (q := ([u8 0, u8 0, u8 0, u8 0, u8 0] ++ more)) (by first | rfl | (simp only [List.append_assoc, List.cons_append, List.nil_append, List.append_nil]; done)) (by first | omega | (simp only [List.length_append, List.length_cons, List.length_nil, List.length_take, List.length_drop, Int.natCast_add] at *; omega)) (by first | omega | (simp only [List.length_append, List.length_cons, List.length_nil, List.length_take, List.length_drop, Int.natCast_add] at *; omega)) (denX rfl)) ?_
  refine hcons (kCut (isX rfl) (.inr ⟨_, _, rfl, (isX rfl)⟩) (.inl ⟨rfl, rfl⟩) (p := ([u8 1, u8 (t), u8 (id / 256), u8 (id % 256), u8 ((((c.length : Int)) / 256) % 256), u8 (((c.length : Int)) % 256), u8 5, u8 0] ++ (c ++ [u8 0, u8 0, u8 0, u8 0, u8 0]))) (m := more) (q := ([] : List UInt8)) (by first | rfl | (simp only [List.append_assoc, List.cons_append, List.nil_append, List.append_nil]; done)) (by first | omega | (simp only [List.length_append, List.length_cons, List.length_nil, List.length_take, List.length_drop, Int.natCast_add] at *; omega)) (by first | omega | (simp only [List.length_append, List.length_cons, List.length_nil, List.length_take, List.length_drop, Int.natCast_add] at *; omega)) (denX rfl)) ?_
  refine hcons (kConvF (isX rfl) tu3 (denX rfl) (fI64 (by omega) (by omega))) ?_
  refine hcons (kRem (isX rfl) (isX rfl) (denX rfl) (by omega) (by omega) rfl) ?_
  refine hcons (kTake (isX rfl) (isX rfl) (by first | omega | (simp only [List.length_append, List.length_cons, List.length_nil, List.length_take, List.length_drop, Int.natCast_add] at *; omega)) (by first | omega | (simp only [List.length_append, List.length_cons, List.length_nil, List.length_take, List.length_drop, Int.natCast_add] at *; omega)) (denX rfl)) ?_
  refine hcons (kNeS (isX rfl) (isSx (l := ([] : List UInt8)) 0 0 rfl) (bnT (by first | exact nilT (by first | omega | (simp only [List.length_append, List.length_cons, List.length_nil, List.length_take, List.length_drop, Int.natCast_add] at *; omega)) | exact nilF (by first | omega | (simp only [List.length_append, List.length_cons, List.length_nil, List.length_take, List.length_drop, Int.natCast_add] at *; omega)) | exact nilT' (by first | omega | (simp only [List.length_append, List.length_cons, List.length_nil, List.length_take, List.length_drop, Int.natCast_add] at *; omega)) | exact nilF' (by first | omega | (simp only [List.length_append, List.length_cons, List.length_nil, List.length_take, List.length_drop, Int.natCast_add] at *; omega))))) ?_
  refine hcons (kIdxE (i := 0) (isX rfl) (isZ (m := 0) rfl) (denZ (m := 1) rfl) rfl (by first | omega | (simp only [List.length_append, List.length_cons, List.length_nil, List.length_take, List.length_drop, Int.natCast_add] at *; omega)) ((bt_take (by omega)).trans (bt_at rfl (by omega) (by omega)))) ?_
  refine hcons (kLenE (isX rfl) (denX rfl) (by first | omega | (simp only [List.length_append, List.length_cons, List.length_nil, List.length_take, List.length_drop, Int.natCast_add] at *; omega))) ?_
  refine hcons (kLt (isX rfl) (isZ (m := 8) rfl) (decide_eq_false (by omega))) ?_
  refine hcons (kIdxE (i := 4) (isX rfl) (isZ (m := 4) rfl) (denX rfl) rfl (by first | omega | (simp only [List.length_append, List.length_cons, List.length_nil, List.length_take, List.length_drop, Int.natCast_add] at *; omega)) ((bt_take (by omega)).trans (bt_at rfl (by omega) (by omega)))) ?_
  refine hcons (kConvF (isX rfl) tu3 (denX rfl) (fI64 (by omega) (by omega))) ?_
  refine hcons (kShlM 8 256 rfl (isX rfl) (isZ (m := 8) rfl) (denX rfl) rfl (by decide) rfl (fI64 (by omega) (by omega))) ?_
  refine hcons (kAdd (isZ (m := 8) rfl) (isX rfl) (denX rfl) rfl (fI64 (by omega) (by omega))) ?_
  refine hcons (kIdxE (i := 5) (isX rfl) (isZ (m := 5) rfl) (denX rfl) rfl (by first | omega | (simp only [List.length_append, List.length_cons, List.length_nil, List.length_take, List.length_drop, Int.natCast_add] at *; omega)) ((bt_take (by omega)).trans (bt_at rfl (by omega) (by omega)))) ?_
  refine hcons (kConvF (isX rfl) tu3 (denX rfl) (fI64 (by omega) (by omega))) ?_
  refine hcons (kAdd (isX rfl) (isX rfl) (denX rfl) rfl (fI64 (by omega) (by omega))) ?_
  refine hcons (kIdxE (i := 6) (isX rfl) (isZ (m := 6) rfl) (denZ (m := 5) rfl) rfl (by first | omega | (simp only [List.length_append, List.length_cons, List.length_nil, List.length_take, List.length_drop, Int.natCast_add] at *; omega)) ((bt_take (by omega)).trans (bt_at rfl (by omega) (by omega)))) ?_
  refine hcons (kAdd (isX rfl) (isZ (m := 5) rfl) (denX rfl) rfl (fI64 (by omega) (by omega))) ?_
  refine hcons (kLt (isX rfl) (isX rfl) (decide_eq_true (by omega))) ?_
  refine hcons (kEqT (isX rfl) (isX rfl) tu3 (decide_eq_true (by omega))) ?_
  refine hcons (kEqT (isX rfl) (isX rfl) tu3 (decide_eq_true (by omega))) ?_
  refine hcons (kEqTS (isX rfl) (isX rfl) tu9 (decide_eq_true rfl)) ?_
  refine hcons (kEqS (isX rfl) (isX rfl) (decide_eq_true rfl)) ?_
  exact hnil
theorem path11 (t : Int) (id : Int) (c : List UInt8) (more : List UInt8) (cut : Int) (b0 : 0 ≤ t) (b1 : t ≤ 255) (b2 : 0 ≤ id) (b3 : id ≤ 65535) (b4 : c.length ≤ 9223372036854775807) (b5 : more.length ≤ 9223372036854775807) (b6 : 0 ≤ cut) (b7 : cut ≤ 65535) (h0 : ¬ (2000 < (c.length : Int))) (h1 : ¬ (200 < (more.length : Int))) (h2 : ¬ (t = 0)) (h3 : ¬ ((-(max ((c.length : Int)) 0)) % 8 = 0)) (h4 : ¬ ((-(max ((c.length : Int)) 0)) % 8 = 1)) (h5 : ¬ ((-(max ((c.length : Int)) 0)) % 8 = 2)) (h6 : ¬ ((-(max ((c.length : Int)) 0)) % 8 = 3)) (h7 : ¬ ((-(max ((c.length : Int)) 0)) % 8 = 4)) (h8 : (-(max ((c.length : Int)) 0)) % 8 = 5) (h20 : ¬ ((cut % ((c.length : Int) + 13)) = 0)) (h21 : ¬ ((cut % ((c.length : Int) + 13)) < 8)) (w : World) (hl : laidE w) : Calls Try.prog 3 #[.int .u8 t, .int .u16 id, St' c, .bool true, St' more, .int .u16 cut] w fun e w' => e = .returned (.bool true) ∧ Go.AX.Below w.heap.size w w' := by
  obtain ⟨fi, hfi, hb⟩ : ∃ fi, tabk.fn.get 3 = some fi ∧ fi.body.isSome = true := ⟨_, rfl, by kernel_rfl⟩
  exact runP (tb := tab11) ((tabkOk (nuL (nu11 t id c more cut)) (one11 t id c more cut)).hyps (hyOk11 t id c more cut b0 b1 b2 b3 b4 b5 b6 b7 h0 h1 h2 h3 h4 h5 h6 h7 h8 h20 h21)) rfl hfi hb (run11 ) (args := [.int .u8 t, .int .u16 id, St' c, .bool true, St' more, .int .u16 cut]) (by simp only [RelL, Rel]; exact ⟨_, _, rfl, rfl, ⟨_, _, rfl, rfl, ⟨_, _, rfl, rfl, ⟨_, _, rfl, rfl, ⟨_, _, rfl, rfl, ⟨_, _, rfl, rfl, rfl⟩⟩⟩⟩⟩⟩) w hl
end Go.Proofs.Ytejdkoheodambaa.recordBack
