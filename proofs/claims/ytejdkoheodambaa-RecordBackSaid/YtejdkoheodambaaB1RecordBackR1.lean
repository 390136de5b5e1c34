/- A part of the proof: an interpreter of the model's own code on partly known states, and that what it answers is what the program answers. No condition of its own. -/
import Derived.Test.YtejdkoheodambaaB1RecordBackO
set_option maxRecDepth 100000
set_option linter.unusedVariables false
set_option linter.unusedSimpArgs false
namespace Go.Proofs.Ytejdkoheodambaa.recordBack
open Go Go.AX Go.Proofs Go.Proofs.Ytejdkoheodambaa
def hy12 : List (HK × AV) := [(.len (.x 2), .x 5),
  (.bin .gtr (.x 5) (.i .i64 (.ofNat 2000)), .b false),
  (.len (.x 3), .x 6),
  (.bin .gtr (.x 6) (.i .i64 (.ofNat 200)), .b false),
  (.bin .eql (.x 0) (.i .u8 (.ofNat 0)), .b false),
  (.conv 3 (.x 0), .x 7),
  (.conv 3 (.x 1), .x 8),
  (.mm true (.x 5) (.i .i64 (.ofNat 0)), .x 9),
  (.un .neg (.x 9), .x 10),
  (.bin .and (.x 10) (.i .i64 (.ofNat 7)), .i .i64 (.ofNat 4)),
  (.bin .geq (.x 7) (.i .i64 (.ofNat 1)), .b true),
  (.bin .leq (.x 7) (.i .i64 (.ofNat 255)), .b true),
  (.bin .geq (.x 8) (.i .i64 (.ofNat 0)), .b true),
  (.bin .leq (.x 8) (.i .i64 (.ofNat 65535)), .b true),
  (.bin .leq (.x 5) (.i .i64 (.ofNat 65535)), .b true),
  (.conv 5 (.x 7), .x 11),
  (.bin .shr (.x 8) (.i .u64 (.ofNat 8)), .x 12),
  (.conv 5 (.x 12), .x 13),
  (.conv 5 (.x 8), .x 14),
  (.bin .shr (.x 5) (.i .u64 (.ofNat 8)), .x 15),
  (.conv 5 (.x 15), .x 16),
  (.conv 5 (.x 5), .x 17),
  (.bytes [.i .u8 (.ofNat 1), .x 11, .x 13, .x 14, .x 16, .x 17, .i .u8 (.ofNat 4), .i .u8 (.ofNat 0)], .x 18),
  (.bin .add (.x 18) (.x 2), .x 19),
  (.bin .add (.x 19) (.s 4 0), .x 20),
  (.len (.x 20), .x 21),
  (.bin .lss (.x 21) (.i .i64 (.ofNat 8)), .b false),
  (.bin .rem (.x 21) (.i .i64 (.ofNat 8)), .x 22),
  (.bin .neq (.x 22) (.i .i64 (.ofNat 0)), .b false),
  (.bin .add (.x 20) (.x 3), .x 23),
  (.bin .neq (.x 23) (.s 0 0), .b true),
  (.idx (.x 23) (.i .i64 (.ofNat 0)), .i .u8 (.ofNat 1)),
  (.len (.x 23), .x 24),
  (.bin .lss (.x 24) (.i .i64 (.ofNat 8)), .b false),
  (.idx (.x 23) (.i .i64 (.ofNat 4)), .x 25),
  (.conv 3 (.x 25), .x 26),
  (.bin .shl (.x 26) (.i .u64 (.ofNat 8)), .x 27),
  (.bin .add (.i .i64 (.ofNat 8)) (.x 27), .x 28),
  (.idx (.x 23) (.i .i64 (.ofNat 5)), .x 29),
  (.conv 3 (.x 29), .x 30),
  (.bin .add (.x 28) (.x 30), .x 31),
  (.idx (.x 23) (.i .i64 (.ofNat 6)), .i .u8 (.ofNat 4)),
  (.bin .add (.x 31) (.i .i64 (.ofNat 4)), .x 32),
  (.bin .lss (.x 24) (.x 32), .b false),
  (.idx (.x 23) (.i .i64 (.ofNat 1)), .x 33),
  (.bin .eql (.x 33) (.i .u8 (.ofNat 0)), .b false),
  (.conv 3 (.x 33), .x 34),
  (.idx (.x 23) (.i .i64 (.ofNat 2)), .x 35),
  (.conv 3 (.x 35), .x 36),
  (.bin .shl (.x 36) (.i .u64 (.ofNat 8)), .x 37),
  (.idx (.x 23) (.i .i64 (.ofNat 3)), .x 38),
  (.conv 3 (.x 38), .x 39),
  (.bin .or (.x 37) (.x 39), .x 40),
  (.bin .sub (.x 32) (.i .i64 (.ofNat 4)), .x 41),
  (.sub (.x 23) (some (.i .i64 (.ofNat 8))) (some (.x 41)), .x 42),
  (.sub (.x 23) (some (.x 32)) none, .x 43),
  (.conv 3 (.x 4), .x 44),
  (.bin .rem (.x 44) (.x 21), .x 45),
  (.sub (.x 20) none (some (.x 45)), .x 46),
  (.bin .neq (.x 46) (.s 0 0), .b false),
  (.len (.x 46), .x 47),
  (.bin .lss (.x 47) (.i .i64 (.ofNat 8)), .b true),
  (.eq 3 (.x 34) (.x 7), .b true),
  (.eq 3 (.x 40) (.x 8), .b true),
  (.eq 9 (.x 42) (.x 2), .b true),
  (.bin .eql (.x 43) (.x 3), .b true)]
noncomputable def tab12 : Tab := { tabk with hyp := hy12 }
theorem run12 : okB (call tab12 9000 3 [.x 0, .x 1, .x 2, .b true, .x 3, .x 4] ⟨H0 , 1, 0, 0⟩) = true := by kernel_rfl
def nu12 (t : Int) (id : Int) (c : List UInt8) (more : List UInt8) (cut : Int) : List Value := [.int .u8 (t),
  .int .u16 (id),
  St' c,
  St' more,
  .int .u16 (cut),
  .int .i64 ((c.length : Int)),
  .int .i64 ((more.length : Int)),
  .int .i64 (t),
  .int .i64 (id),
  .int .i64 (max ((c.length : Int)) 0),
  .int .i64 (-(max ((c.length : Int)) 0)),
  .int .u8 (t),
  .int .i64 (id / 256),
  .int .u8 (id / 256),
  .int .u8 (id % 256),
  .int .i64 (((c.length : Int)) / 256),
  .int .u8 ((((c.length : Int)) / 256) % 256),
  .int .u8 (((c.length : Int)) % 256),
  St' ([u8 1, u8 (t), u8 (id / 256), u8 (id % 256), u8 ((((c.length : Int)) / 256) % 256), u8 (((c.length : Int)) % 256), u8 4, u8 0]),
  St' (([u8 1, u8 (t), u8 (id / 256), u8 (id % 256), u8 ((((c.length : Int)) / 256) % 256), u8 (((c.length : Int)) % 256), u8 4, u8 0] ++ c)),
  St' (([u8 1, u8 (t), u8 (id / 256), u8 (id % 256), u8 ((((c.length : Int)) / 256) % 256), u8 (((c.length : Int)) % 256), u8 4, u8 0] ++ (c ++ [u8 0, u8 0, u8 0, u8 0]))),
  .int .i64 ((c.length : Int) + 12),
  .int .i64 (((c.length : Int) + 12) % 8),
  St' (([u8 1, u8 (t), u8 (id / 256), u8 (id % 256), u8 ((((c.length : Int)) / 256) % 256), u8 (((c.length : Int)) % 256), u8 4, u8 0] ++ (c ++ ([u8 0, u8 0, u8 0, u8 0] ++ more)))),
  .int .i64 ((c.length : Int) + (more.length : Int) + 12),
  .int .u8 ((((c.length : Int)) / 256) % 256),
  .int .i64 ((((c.length : Int)) / 256) % 256),
  .int .i64 (((((c.length : Int)) / 256) % 256) * 256),
  .int .i64 (8 + (((((c.length : Int)) / 256) % 256) * 256)),
  .int .u8 (((c.length : Int)) % 256),
  .int .i64 (((c.length : Int)) % 256),
  .int .i64 ((8 + (((((c.length : Int)) / 256) % 256) * 256)) + (((c.length : Int)) % 256)),
  .int .i64 (((8 + (((((c.length : Int)) / 256) % 256) * 256)) + (((c.length : Int)) % 256)) + 4),
  .int .u8 (t),
  .int .i64 (t),
  .int .u8 (id / 256),
  .int .i64 (id / 256),
  .int .i64 ((id / 256) * 256),
  .int .u8 (id % 256),
  .int .i64 (id % 256),
  .int .i64 (((id / 256) * 256) + (id % 256)),
  .int .i64 ((((8 + (((((c.length : Int)) / 256) % 256) * 256)) + (((c.length : Int)) % 256)) + 4) - 4),
  St' c,
  St' more,
  .int .i64 (cut),
  .int .i64 (cut % ((c.length : Int) + 12)),
  St' ((List.take (cut % ((c.length : Int) + 12)).toNat (([u8 1, u8 (t), u8 (id / 256), u8 (id % 256), u8 ((((c.length : Int)) / 256) % 256), u8 (((c.length : Int)) % 256), u8 4, u8 0] ++ (c ++ [u8 0, u8 0, u8 0, u8 0]))))),
  .int .i64 ((cut % ((c.length : Int) + 12)))]
theorem one12 (t : Int) (id : Int) (c : List UInt8) (more : List UInt8) (cut : Int) : ∀ j, (nuL (nu12 t id c more cut) j).oneCell' = true := nuL_one (l := nu12 t id c more cut) rfl
set_option maxHeartbeats 2000000 in
theorem hyOk12 (t : Int) (id : Int) (c : List UInt8) (more : List UInt8) (cut : Int) (b0 : 0 ≤ t) (b1 : t ≤ 255) (b2 : 0 ≤ id) (b3 : id ≤ 65535) (b4 : c.length ≤ 9223372036854775807) (b5 : more.length ≤ 9223372036854775807) (b6 : 0 ≤ cut) (b7 : cut ≤ 65535) (h0 : ¬ (2000 < (c.length : Int))) (h1 : ¬ (200 < (more.length : Int))) (h2 : ¬ (t = 0)) (h3 : ¬ ((-(max ((c.length : Int)) 0)) % 8 = 0)) (h4 : ¬ ((-(max ((c.length : Int)) 0)) % 8 = 1)) (h5 : ¬ ((-(max ((c.length : Int)) 0)) % 8 = 2)) (h6 : ¬ ((-(max ((c.length : Int)) 0)) % 8 = 3)) (h7 : (-(max ((c.length : Int)) 0)) % 8 = 4) (h19 : (cut % ((c.length : Int) + 12)) = 0) : ∀ k r, (k, r) ∈ hy12 → HOk (cx (nuL (nu12 t id c more cut)) (one12 t id c more cut) 0 laidE laidE_stab) k r := by
  have := Int.emod_nonneg cut (show ((c.length : Int) + 12) ≠ 0 by omega); have := Int.emod_lt_of_pos cut (show 0 < ((c.length : Int) + 12) by omega)
  unfold hy12
  refine hcons (kLenE (isX rfl) (denX rfl) (by first | omega | (simp only [List.length_append, List.length_cons, List.length_nil, List.length_take, List.length_drop, Int.natCast_add] at *; omega))) ?_
  refine hcons (kGt (isX rfl) (isZ (m := 2000) rfl) (decide_eq_false (by omega))) ?_
  refine hcons (kLenE (isX rfl) (denX rfl) (by first | omega | (simp only [List.length_append, List.length_cons, List.length_nil, List.length_take, List.length_drop, Int.natCast_add] at *; omega))) ?_
  refine hcons (kGt (isX rfl) (isZ (m := 200) rfl) (decide_eq_false (by omega))) ?_
  refine hcons (kEqI (isX rfl) (isZ (m := 0) rfl) (decide_eq_false (by omega))) ?_
  refine hcons (kConvF (isX rfl) tu3 (denX rfl) (fI64 (by omega) (by omega))) ?_
  refine hcons (kConvF (isX rfl) tu3 (denX rfl) (fI64 (by omega) (by omega))) ?_
  refine hcons (kMax (isX rfl) (isZ (m := 0) rfl) (denX rfl) rfl) ?_
  refine hcons (kNeg (isX rfl) (denX rfl) rfl (fI64 (by omega) (by omega))) ?_
  refine hcons (kAndG 3 8 rfl (by decide) (isX rfl) (isZ (m := 7) rfl) (denZ (m := 4) rfl) (fI64 (by omega) (by omega)) rfl (by omega) (fI64 (by omega) (by omega))) ?_
  refine hcons (kGe (isX rfl) (isZ (m := 1) rfl) (decide_eq_true (by omega))) ?_
  refine hcons (kLe (isX rfl) (isZ (m := 255) rfl) (decide_eq_true (by omega))) ?_
  refine hcons (kGe (isX rfl) (isZ (m := 0) rfl) (decide_eq_true (by omega))) ?_
  refine hcons (kLe (isX rfl) (isZ (m := 65535) rfl) (decide_eq_true (by omega))) ?_
  refine hcons (kLe (isX rfl) (isZ (m := 65535) rfl) (decide_eq_true (by omega))) ?_
  refine hcons (kConvF (isX rfl) tu5 (denX rfl) (fU8 (by omega) (by omega))) ?_
  refine hcons (kShrM 8 256 rfl (isX rfl) (isZ (m := 8) rfl) (denX rfl) rfl (by decide) (by omega) rfl) ?_
  refine hcons (kConvF (isX rfl) tu5 (denX rfl) (fU8 (by omega) (by omega))) ?_
  refine hcons (kConv8 (isX rfl) tu5 (denX rfl) rfl) ?_
  refine hcons (kShrM 8 256 rfl (isX rfl) (isZ (m := 8) rfl) (denX rfl) rfl (by decide) (by omega) rfl) ?_
  refine hcons (kConv8 (isX rfl) tu5 (denX rfl) rfl) ?_
  refine hcons (kConv8 (isX rfl) tu5 (denX rfl) rfl) ?_
  refine hcons (kBytesB (bs := [u8 1, u8 (t), u8 (id / 256), u8 (id % 256), u8 ((((c.length : Int)) / 256) % 256), u8 (((c.length : Int)) % 256), u8 4, u8 0]) (.cons (isB8 (isZ (m := 1) rfl) (by omega) (by omega)) (.cons (isB8 (isX rfl) (by omega) (by omega)) (.cons (isB8 (isX rfl) (by omega) (by omega)) (.cons (isB8 (isX rfl) (by omega) (by omega)) (.cons (isB8 (isX rfl) (by omega) (by omega)) (.cons (isB8 (isX rfl) (by omega) (by omega)) (.cons (isB8 (isZ (m := 4) rfl) (by omega) (by omega)) (.cons (isB8 (isZ (m := 0) rfl) (by omega) (by omega)) .nil)))))))) (denX rfl)) ?_
  refine hcons (kCat (isX rfl) (isX rfl) (denX rfl) (by first | rfl | (simp only [List.append_assoc, List.cons_append, List.nil_append, List.append_nil]; done)) (by first | omega | (simp only [List.length_append, List.length_cons, List.length_nil, List.length_take, List.length_drop, Int.natCast_add] at *; omega))) ?_
  refine hcons (kCat (isX rfl) (isSx (l := [u8 0, u8 0, u8 0, u8 0]) 4 0 rfl) (denX rfl) (by first | rfl | (simp only [List.append_assoc, List.cons_append, List.nil_append, List.append_nil]; done)) (by first | omega | (simp only [List.length_append, List.length_cons, List.length_nil, List.length_take, List.length_drop, Int.natCast_add] at *; omega))) ?_
  refine hcons (kLenE (isX rfl) (denX rfl) (by first | omega | (simp only [List.length_append, List.length_cons, List.length_nil, List.length_take, List.length_drop, Int.natCast_add] at *; omega))) ?_
  refine hcons (kLt (isX rfl) (isZ (m := 8) rfl) (decide_eq_false (by omega))) ?_
  refine hcons (kRem (isX rfl) (isZ (m := 8) rfl) (denX rfl) (by omega) (by omega) rfl) ?_
  refine hcons (kNeI (isX rfl) (isZ (m := 0) rfl) (neF (by omega))) ?_
  refine hcons (kCat (isX rfl) (isX rfl) (denX rfl) (by first | rfl | (simp only [List.append_assoc, List.cons_append, List.nil_append, List.append_nil]; done)) (by first | omega | (simp only [List.length_append, List.length_cons, List.length_nil, List.length_take, List.length_drop, Int.natCast_add] at *; omega))) ?_
  refine hcons (kNeS (isX rfl) (isSx (l := ([] : List UInt8)) 0 0 rfl) (bnT (by first | exact nilT (by first | omega | (simp only [List.length_append, List.length_cons, List.length_nil, List.length_take, List.length_drop, Int.natCast_add] at *; omega)) | exact nilF (by first | omega | (simp only [List.length_append, List.length_cons, List.length_nil, List.length_take, List.length_drop, Int.natCast_add] at *; omega)) | exact nilT' (by first | omega | (simp only [List.length_append, List.length_cons, List.length_nil, List.length_take, List.length_drop, Int.natCast_add] at *; omega)) | exact nilF' (by first | omega | (simp only [List.length_append, List.length_cons, List.length_nil, List.length_take, List.length_drop, Int.natCast_add] at *; omega))))) ?_
  refine hcons (kIdxE (i := 0) (isX rfl) (isZ (m := 0) rfl) (denZ (m := 1) rfl) rfl (by first | omega | (simp only [List.length_append, List.length_cons, List.length_nil, List.length_take, List.length_drop, Int.natCast_add] at *; omega)) (bt_at rfl (by omega) (by omega))) ?_
  refine hcons (kLenE (isX rfl) (denX rfl) (by first | omega | (simp only [List.length_append, List.length_cons, List.length_nil, List.length_take, List.length_drop, Int.natCast_add] at *; omega))) ?_
  refine hcons (kLt (isX rfl) (isZ (m := 8) rfl) (decide_eq_false (by omega))) ?_
  refine hcons (kIdxE (i := 4) (isX rfl) (isZ (m := 4) rfl) (denX rfl) rfl (by first | omega | (simp only [List.length_append, List.length_cons, List.length_nil, List.length_take, List.length_drop, Int.natCast_add] at *; omega)) (bt_at rfl (by omega) (by omega))) ?_
  refine hcons (kConvF (isX rfl) tu3 (denX rfl) (fI64 (by omega) (by omega))) ?_
  refine hcons (kShlM 8 256 rfl (isX rfl) (isZ (m := 8) rfl) (denX rfl) rfl (by decide) rfl (fI64 (by omega) (by omega))) ?_
  refine hcons (kAdd (isZ (m := 8) rfl) (isX rfl) (denX rfl) rfl (fI64 (by omega) (by omega))) ?_
  refine hcons (kIdxE (i := 5) (isX rfl) (isZ (m := 5) rfl) (denX rfl) rfl (by first | omega | (simp only [List.length_append, List.length_cons, List.length_nil, List.length_take, List.length_drop, Int.natCast_add] at *; omega)) (bt_at rfl (by omega) (by omega))) ?_
  refine hcons (kConvF (isX rfl) tu3 (denX rfl) (fI64 (by omega) (by omega))) ?_
  refine hcons (kAdd (isX rfl) (isX rfl) (denX rfl) rfl (fI64 (by omega) (by omega))) ?_
  refine hcons (kIdxE (i := 6) (isX rfl) (isZ (m := 6) rfl) (denZ (m := 4) rfl) rfl (by first | omega | (simp only [List.length_append, List.length_cons, List.length_nil, List.length_take, List.length_drop, Int.natCast_add] at *; omega)) (bt_at rfl (by omega) (by omega))) ?_
  refine hcons (kAdd (isX rfl) (isZ (m := 4) rfl) (denX rfl) rfl (fI64 (by omega) (by omega))) ?_
  refine hcons (kLt (isX rfl) (isX rfl) (decide_eq_false (by omega))) ?_
  refine hcons (kIdxE (i := 1) (isX rfl) (isZ (m := 1) rfl) (denX rfl) rfl (by first | omega | (simp only [List.length_append, List.length_cons, List.length_nil, List.length_take, List.length_drop, Int.natCast_add] at *; omega)) (bt_at rfl (by omega) (by omega))) ?_
  refine hcons (kEqI (isX rfl) (isZ (m := 0) rfl) (decide_eq_false (by omega))) ?_
  refine hcons (kConvF (isX rfl) tu3 (denX rfl) (fI64 (by omega) (by omega))) ?_
  refine hcons (kIdxE (i := 2) (isX rfl) (isZ (m := 2) rfl) (denX rfl) rfl (by first | omega | (simp only [List.length_append, List.length_cons, List.length_nil, List.length_take, List.length_drop, Int.natCast_add] at *; omega)) (bt_at rfl (by omega) (by omega))) ?_
  refine hcons (kConvF (isX rfl) tu3 (denX rfl) (fI64 (by omega) (by omega))) ?_
  refine hcons (kShlM 8 256 rfl (isX rfl) (isZ (m := 8) rfl) (denX rfl) rfl (by decide) rfl (fI64 (by omega) (by omega))) ?_
  refine hcons (kIdxE (i := 3) (isX rfl) (isZ (m := 3) rfl) (denX rfl) rfl (by first | omega | (simp only [List.length_append, List.length_cons, List.length_nil, List.length_take, List.length_drop, Int.natCast_add] at *; omega)) (bt_at rfl (by omega) (by omega))) ?_
  refine hcons (kConvF (isX rfl) tu3 (denX rfl) (fI64 (by omega) (by omega))) ?_
  refine hcons (kOrM 8 256 rfl (isX rfl) (isX rfl) (denX rfl) (by omega) (by omega) (fI64 (by omega) (by omega)) (fI64 (by omega) (by omega)) (by omega) (by omega) rfl (fI64 (by omega) (by omega))) ?_
  refine hcons (kSub (isX rfl) (isZ (m := 4) rfl) (denX rfl) rfl (fI64 (by omega) (by omega))) ?_
  refine hcons (kCut (isX rfl) (.inr ⟨_, _, rfl, (isZ (m := 8) rfl)⟩) (.inr ⟨_, _, rfl, (isX rfl)⟩) (p := [u8 1, u8 (t), u8 (id / 256), u8 (id % 256), u8 ((((c.length : Int)) / 256) % 256), u8 (((c.length : Int)) % 256), u8 4, u8 0]) (m := c) (q := ([u8 0, u8 0, u8 0, u8 0] ++ more)) (by first | rfl | (simp only [List.append_assoc, List.cons_append, List.nil_append, List.append_nil]; done)) (by first | omega | (simp only [List.length_append, List.length_cons, List.length_nil, List.length_take, List.length_drop, Int.natCast_add] at *; omega)) (by first | omega | (simp only [List.length_append, List.length_cons, List.length_nil, List.length_take, List.length_drop, Int.natCast_add] at *; omega)) (denX rfl)) ?_
  refine hcons (kCut (isX rfl) (.inr ⟨_, _, rfl, (isX rfl)⟩) (.inl ⟨rfl, rfl⟩) (p := ([u8 1, u8 (t), u8 (id / 256), u8 (id % 256), u8 ((((c.length : Int)) / 256) % 256), u8 (((c.length : Int)) % 256), u8 4, u8 0] ++ (c ++ [u8 0, u8 0, u8 0, u8 0]))) (m := more) (q := ([] : List UInt8)) (by first | rfl | (simp only [List.append_assoc, List.cons_append, List.nil_append, List.append_nil]; done)) (by first | omega | (simp only [List.length_append, List.length_cons, List.length_nil, List.length_take, List.length_drop, Int.natCast_add] at *; omega)) (by first | omega | (simp only [List.length_append, List.length_cons, List.length_nil, List.length_take, List.length_drop, Int.natCast_add] at *; omega)) (denX rfl)) ?_
  refine hcons (kConvF (isX rfl) tu3 (denX rfl) (fI64 (by omega) (by omega))) ?_
  refine hcons (kRem (isX rfl) (isX rfl) (denX rfl) (by omega) (by omega) rfl) ?_
  refine hcons (kTake (isX rfl) (isX rfl) (by first | omega | (simp only [List.length_append, List.length_cons, List.length_nil, List.length_take, List.length_drop, Int.natCast_add] at *; omega)) (by first | omega | (simp only [List.length_append, List.length_cons, List.length_nil, List.length_take, List.length_drop, Int.natCast_add] at *; omega)) (denX rfl)) ?_
  refine hcons (kNeS (isX rfl) (isSx (l := ([] : List UInt8)) 0 0 rfl) (bnF (by first | exact nilT (by first | omega | (simp only [List.length_append, List.length_cons, List.length_nil, List.length_take, List.length_drop, Int.natCast_add] at *; omega)) | exact nilF (by first | omega | (simp only [List.length_append, List.length_cons, List.length_nil, List.length_take, List.length_drop, Int.natCast_add] at *; omega)) | exact nilT' (by first | omega | (simp only [List.length_append, List.length_cons, List.length_nil, List.length_take, List.length_drop, Int.natCast_add] at *; omega)) | exact nilF' (by first | omega | (simp only [List.length_append, List.length_cons, List.length_nil, List.length_take, List.length_drop, Int.natCast_add] at *; omega))))) ?_
  refine hcons (kLenE (isX rfl) (denX rfl) (by first | omega | (simp only [List.length_append, List.length_cons, List.length_nil, List.length_take, List.length_drop, Int.natCast_add] at *; omega))) ?_
  refine hcons (kLt (isX rfl) (isZ (m := 8) rfl) (decide_eq_true (by omega))) ?_
  refine hcons (kEqT (isX rfl) (isX rfl) tu3 (decide_eq_true (by omega))) ?_
  refine hcons (kEqT (isX rfl) (isX rfl) tu3 (decide_eq_true (by omega))) ?_
  refine hcons (kEqTS (isX rfl) (isX rfl) tu9 (decide_eq_true rfl)) ?_
  refine hcons (kEqS (isX rfl) (isX rfl) (decide_eq_true rfl)) ?_
  exact hnil
theorem path12 (t : Int) (id : Int) (c : List UInt8) (more : List UInt8) (cut : Int) (b0 : 0 ≤ t) (b1 : t ≤ 255) (b2 : 0 ≤ id) (b3 : id ≤ 65535) (b4 : c.length ≤ 9223372036854775807) (b5 : more.length ≤ 9223372036854775807) (b6 : 0 ≤ cut) (b7 : cut ≤ 65535) (h0 : ¬ (2000 < (c.length : Int))) (h1 : ¬ (200 < (more.length : Int))) (h2 : ¬ (t = 0)) (h3 : ¬ ((-(max ((c.length : Int)) 0)) % 8 = 0)) (h4 : ¬ ((-(max ((c.length : Int)) 0)) % 8 = 1)) (h5 : ¬ ((-(max ((c.length : Int)) 0)) % 8 = 2)) (h6 : ¬ ((-(max ((c.length : Int)) 0)) % 8 = 3)) (h7 : (-(max ((c.length : Int)) 0)) % 8 = 4) (h19 : (cut % ((c.length : Int) + 12)) = 0) (w : World) (hl : laidE w) : Calls Try.prog 3 #[.int .u8 t, .int .u16 id, St' c, .bool true, St' more, .int .u16 cut] w fun e w' => e = .returned (.bool true) ∧ Go.AX.Below w.heap.size w w' := by
  obtain ⟨fi, hfi, hb⟩ : ∃ fi, tabk.fn.get 3 = some fi ∧ fi.body.isSome = true := ⟨_, rfl, by kernel_rfl⟩
  exact runP (tb := tab12) ((tabkOk (nuL (nu12 t id c more cut)) (one12 t id c more cut)).hyps (hyOk12 t id c more cut b0 b1 b2 b3 b4 b5 b6 b7 h0 h1 h2 h3 h4 h5 h6 h7 h19)) rfl hfi hb (run12 ) (args := [.int .u8 t, .int .u16 id, St' c, .bool true, St' more, .int .u16 cut]) (by simp only [RelL, Rel]; exact ⟨_, _, rfl, rfl, ⟨_, _, rfl, rfl, ⟨_, _, rfl, rfl, ⟨_, _, rfl, rfl, ⟨_, _, rfl, rfl, ⟨_, _, rfl, rfl, rfl⟩⟩⟩⟩⟩⟩) w hl
def hy13 : List (HK × AV) := [(.len (.x 2), .x 5),
  (.bin .gtr (.x 5) (.i .i64 (.ofNat 2000)), .b false),
  (.len (.x 3), .x 6),
  (.bin .gtr (.x 6) (.i .i64 (.ofNat 200)), .b false),
  (.bin .eql (.x 0) (.i .u8 (.ofNat 0)), .b false),
  (.conv 3 (.x 0), .x 7),
  (.conv 3 (.x 1), .x 8),
  (.mm true (.x 5) (.i .i64 (.ofNat 0)), .x 9),
  (.un .neg (.x 9), .x 10),
  (.bin .and (.x 10) (.i .i64 (.ofNat 7)), .i .i64 (.ofNat 4)),
  (.bin .geq (.x 7) (.i .i64 (.ofNat 1)), .b true),
  (.bin .leq (.x 7) (.i .i64 (.ofNat 255)), .b true),
  (.bin .geq (.x 8) (.i .i64 (.ofNat 0)), .b true),
  (.bin .leq (.x 8) (.i .i64 (.ofNat 65535)), .b true),
  (.bin .leq (.x 5) (.i .i64 (.ofNat 65535)), .b true),
  (.conv 5 (.x 7), .x 11),
  (.bin .shr (.x 8) (.i .u64 (.ofNat 8)), .x 12),
  (.conv 5 (.x 12), .x 13),
  (.conv 5 (.x 8), .x 14),
  (.bin .shr (.x 5) (.i .u64 (.ofNat 8)), .x 15),
  (.conv 5 (.x 15), .x 16),
  (.conv 5 (.x 5), .x 17),
  (.bytes [.i .u8 (.ofNat 1), .x 11, .x 13, .x 14, .x 16, .x 17, .i .u8 (.ofNat 4), .i .u8 (.ofNat 0)], .x 18),
  (.bin .add (.x 18) (.x 2), .x 19),
  (.bin .add (.x 19) (.s 4 0), .x 20),
  (.len (.x 20), .x 21),
  (.bin .lss (.x 21) (.i .i64 (.ofNat 8)), .b false),
  (.bin .rem (.x 21) (.i .i64 (.ofNat 8)), .x 22),
  (.bin .neq (.x 22) (.i .i64 (.ofNat 0)), .b false),
  (.bin .add (.x 20) (.x 3), .x 23),
  (.bin .neq (.x 23) (.s 0 0), .b true),
  (.idx (.x 23) (.i .i64 (.ofNat 0)), .i .u8 (.ofNat 1)),
  (.len (.x 23), .x 24),
  (.bin .lss (.x 24) (.i .i64 (.ofNat 8)), .b false),
  (.idx (.x 23) (.i .i64 (.ofNat 4)), .x 25),
  (.conv 3 (.x 25), .x 26),
  (.bin .shl (.x 26) (.i .u64 (.ofNat 8)), .x 27),
  (.bin .add (.i .i64 (.ofNat 8)) (.x 27), .x 28),
  (.idx (.x 23) (.i .i64 (.ofNat 5)), .x 29),
  (.conv 3 (.x 29), .x 30),
  (.bin .add (.x 28) (.x 30), .x 31),
  (.idx (.x 23) (.i .i64 (.ofNat 6)), .i .u8 (.ofNat 4)),
  (.bin .add (.x 31) (.i .i64 (.ofNat 4)), .x 32),
  (.bin .lss (.x 24) (.x 32), .b false),
  (.idx (.x 23) (.i .i64 (.ofNat 1)), .x 33),
  (.bin .eql (.x 33) (.i .u8 (.ofNat 0)), .b false),
  (.conv 3 (.x 33), .x 34),
  (.idx (.x 23) (.i .i64 (.ofNat 2)), .x 35),
  (.conv 3 (.x 35), .x 36),
  (.bin .shl (.x 36) (.i .u64 (.ofNat 8)), .x 37),
  (.idx (.x 23) (.i .i64 (.ofNat 3)), .x 38),
  (.conv 3 (.x 38), .x 39),
  (.bin .or (.x 37) (.x 39), .x 40),
  (.bin .sub (.x 32) (.i .i64 (.ofNat 4)), .x 41),
  (.sub (.x 23) (some (.i .i64 (.ofNat 8))) (some (.x 41)), .x 42),
  (.sub (.x 23) (some (.x 32)) none, .x 43),
  (.conv 3 (.x 4), .x 44),
  (.bin .rem (.x 44) (.x 21), .x 45),
  (.sub (.x 20) none (some (.x 45)), .x 46),
  (.bin .neq (.x 46) (.s 0 0), .b true),
  (.idx (.x 46) (.i .i64 (.ofNat 0)), .i .u8 (.ofNat 1)),
  (.len (.x 46), .x 47),
  (.bin .lss (.x 47) (.i .i64 (.ofNat 8)), .b true),
  (.eq 3 (.x 34) (.x 7), .b true),
  (.eq 3 (.x 40) (.x 8), .b true),
  (.eq 9 (.x 42) (.x 2), .b true),
  (.bin .eql (.x 43) (.x 3), .b true)]
noncomputable def tab13 : Tab := { tabk with hyp := hy13 }
theorem run13 : okB (call tab13 9000 3 [.x 0, .x 1, .x 2, .b true, .x 3, .x 4] ⟨H0 , 1, 0, 0⟩) = true := by kernel_rfl
def nu13 (t : Int) (id : Int) (c : List UInt8) (more : List UInt8) (cut : Int) : List Value := [.int .u8 (t),
  .int .u16 (id),
  St' c,
  St' more,
  .int .u16 (cut),
  .int .i64 ((c.length : Int)),
  .int .i64 ((more.length : Int)),
  .int .i64 (t),
  .int .i64 (id),
  .int .i64 (max ((c.length : Int)) 0),
  .int .i64 (-(max ((c.length : Int)) 0)),
  .int .u8 (t),
  .int .i64 (id / 256),
  .int .u8 (id / 256),
  .int .u8 (id % 256),
  .int .i64 (((c.length : Int)) / 256),
  .int .u8 ((((c.length : Int)) / 256) % 256),
  .int .u8 (((c.length : Int)) % 256),
  St' ([u8 1, u8 (t), u8 (id / 256), u8 (id % 256), u8 ((((c.length : Int)) / 256) % 256), u8 (((c.length : Int)) % 256), u8 4, u8 0]),
  St' (([u8 1, u8 (t), u8 (id / 256), u8 (id % 256), u8 ((((c.length : Int)) / 256) % 256), u8 (((c.length : Int)) % 256), u8 4, u8 0] ++ c)),
  St' (([u8 1, u8 (t), u8 (id / 256), u8 (id % 256), u8 ((((c.length : Int)) / 256) % 256), u8 (((c.length : Int)) % 256), u8 4, u8 0] ++ (c ++ [u8 0, u8 0, u8 0, u8 0]))),
  .int .i64 ((c.length : Int) + 12),
  .int .i64 (((c.length : Int) + 12) % 8),
  St' (([u8 1, u8 (t), u8 (id / 256), u8 (id % 256), u8 ((((c.length : Int)) / 256) % 256), u8 (((c.length : Int)) % 256), u8 4, u8 0] ++ (c ++ ([u8 0, u8 0, u8 0, u8 0] ++ more)))),
  .int .i64 ((c.length : Int) + (more.length : Int) + 12),
  .int .u8 ((((c.length : Int)) / 256) % 256),
  .int .i64 ((((c.length : Int)) / 256) % 256),
  .int .i64 (((((c.length : Int)) / 256) % 256) * 256),
  .int .i64 (8 + (((((c.length : Int)) / 256) % 256) * 256)),
  .int .u8 (((c.length : Int)) % 256),
  .int .i64 (((c.length : Int)) % 256),
  .int .i64 ((8 + (((((c.length : Int)) / 256) % 256) * 256)) + (((c.length : Int)) % 256)),
  .int .i64 (((8 + (((((c.length : Int)) / 256) % 256) * 256)) + (((c.length : Int)) % 256)) + 4),
  .int .u8 (t),
  .int .i64 (t),
  .int .u8 (id / 256),
  .int .i64 (id / 256),
  .int .i64 ((id / 256) * 256),
  .int .u8 (id % 256),
  .int .i64 (id % 256),
  .int .i64 (((id / 256) * 256) + (id % 256)),
  .int .i64 ((((8 + (((((c.length : Int)) / 256) % 256) * 256)) + (((c.length : Int)) % 256)) + 4) - 4),
  St' c,
  St' more,
  .int .i64 (cut),
  .int .i64 (cut % ((c.length : Int) + 12)),
  St' ((List.take (cut % ((c.length : Int) + 12)).toNat (([u8 1, u8 (t), u8 (id / 256), u8 (id % 256), u8 ((((c.length : Int)) / 256) % 256), u8 (((c.length : Int)) % 256), u8 4, u8 0] ++ (c ++ [u8 0, u8 0, u8 0, u8 0]))))),
  .int .i64 ((cut % ((c.length : Int) + 12)))]
theorem one13 (t : Int) (id : Int) (c : List UInt8) (more : List UInt8) (cut : Int) : ∀ j, (nuL (nu13 t id c more cut) j).oneCell' = true := nuL_one (l := nu13 t id c more cut) rfl
set_option maxHeartbeats 2000000 in
theorem hyOk13 (t : Int) (id : Int) (c : List UInt8) (more : List UInt8) (cut : Int) (b0 : 0 ≤ t) (b1 : t ≤ 255) (b2 : 0 ≤ id) (b3 : id ≤ 65535) (b4 : c.length ≤ 9223372036854775807) (b5 : more.length ≤ 9223372036854775807) (b6 : 0 ≤ cut) (b7 : cut ≤ 65535) (h0 : ¬ (2000 < (c.length : Int))) (h1 : ¬ (200 < (more.length : Int))) (h2 : ¬ (t = 0)) (h3 : ¬ ((-(max ((c.length : Int)) 0)) % 8 = 0)) (h4 : ¬ ((-(max ((c.length : Int)) 0)) % 8 = 1)) (h5 : ¬ ((-(max ((c.length : Int)) 0)) % 8 = 2)) (h6 : ¬ ((-(max ((c.length : Int)) 0)) % 8 = 3)) (h7 : (-(max ((c.length : Int)) 0)) % 8 = 4) (h19 : ¬ ((cut % ((c.length : Int) + 12)) = 0)) (h20 : (cut % ((c.length : Int) + 12)) < 8) : ∀ k r, (k, r) ∈ hy13 → HOk (cx (nuL (nu13 t id c more cut)) (one13 t id c more cut) 0 laidE laidE_stab) k r := by
  have := Int.emod_nonneg cut (show ((c.length : Int) + 12) ≠ 0 by omega); have := Int.emod_lt_of_pos cut (show 0 < ((c.length : Int) + 12) by omega)
  unfold hy13
  refine hcons (kLenE (isX rfl) (denX rfl) (by first | omega | (simp only [List.length_append, List.length_cons, List.length_nil, List.length_take, List.length_drop, Int.natCast_add] at *; omega))) ?_
  refine hcons (kGt (isX rfl) (isZ (m := 2000) rfl) (decide_eq_false (by omega))) ?_
  refine hcons (kLenE (isX rfl) (denX rfl) (by first | omega | (simp only [List.length_append, List.length_cons, List.length_nil, List.length_take, List.length_drop, Int.natCast_add] at *; omega))) ?_
  refine hcons (kGt (isX rfl) (isZ (m := 200) rfl) (decide_eq_false (by omega))) ?_
  refine hcons (kEqI (isX rfl) (isZ (m := 0) rfl) (decide_eq_false (by omega))) ?_
  refine hcons (kConvF (isX rfl) tu3 (denX rfl) (fI64 (by omega) (by omega))) ?_
  refine hcons (kConvF (isX rfl) tu3 (denX rfl) (fI64 (by omega) (by omega))) ?_
  refine hcons (kMax (isX rfl) (isZ (m := 0) rfl) (denX rfl) rfl) ?_
  refine hcons (kNeg (isX rfl) (denX rfl) rfl (fI64 (by omega) (by omega))) ?_
  refine hcons (kAndG 3 8 rfl (by decide) (isX rfl) (isZ (m := 7) rfl) (denZ (m := 4) rfl) (fI64 (by omega) (by omega)) rfl (by omega) (fI64 (by omega) (by omega))) ?_
  refine hcons (kGe (isX rfl) (isZ (m := 1) rfl) (decide_eq_true (by omega))) ?_
  refine hcons (kLe (isX rfl) (isZ (m := 255) rfl) (decide_eq_true (by omega))) ?_
  refine hcons (kGe (isX rfl) (isZ (m := 0) rfl) (decide_eq_true (by omega))) ?_
  refine hcons (kLe (isX rfl) (isZ (m := 65535) rfl) (decide_eq_true (by omega))) ?_
  refine hcons (kLe (isX rfl) (isZ (m := 65535) rfl) (decide_eq_true (by omega))) ?_
  refine hcons (kConvF (isX rfl) tu5 (denX rfl) (fU8 (by omega) (by omega))) ?_
  refine hcons (kShrM 8 256 rfl (isX rfl) (isZ (m := 8) rfl) (denX rfl) rfl (by decide) (by omega) rfl) ?_
  refine hcons (kConvF (isX rfl) tu5 (denX rfl) (fU8 (by omega) (by omega))) ?_
  refine hcons (kConv8 (isX rfl) tu5 (denX rfl) rfl) ?_
  refine hcons (kShrM 8 256 rfl (isX rfl) (isZ (m := 8) rfl) (denX rfl) rfl (by decide) (by omega) rfl) ?_
  refine hcons (kConv8 (isX rfl) tu5 (denX rfl) rfl) ?_
  refine hcons (kConv8 (isX rfl) tu5 (denX rfl) rfl) ?_
  refine hcons (kBytesB (bs := [u8 1, u8 (t), u8 (id / 256), u8 (id % 256), u8 ((((c.length : Int)) / 256) % 256), u8 (((c.length : Int)) % 256), u8 4, u8 0]) (.cons (isB8 (isZ (m := 1) rfl) (by omega) (by omega)) (.cons (isB8 (isX rfl) (by omega) (by omega)) (.cons (isB8 (isX rfl) (by omega) (by omega)) (.cons (isB8 (isX rfl) (by omega) (by omega)) (.cons (isB8 (isX rfl) (by omega) (by omega)) (.cons (isB8 (isX rfl) (by omega) (by omega)) (.cons (isB8 (isZ (m := 4) rfl) (by omega) (by omega)) (.cons (isB8 (isZ (m := 0) rfl) (by omega) (by omega)) .nil)))))))) (denX rfl)) ?_
  refine hcons (kCat (isX rfl) (isX rfl) (denX rfl) (by first | rfl | (simp only [List.append_assoc, List.cons_append, List.nil_append, List.append_nil]; done)) (by first | omega | (simp only [List.length_append, List.length_cons, List.length_nil, List.length_take, List.length_drop, Int.natCast_add] at *; omega))) ?_
  refine hcons (kCat (isX rfl) (isSx (l := [u8 0, u8 0, u8 0, u8 0]) 4 0 rfl) (denX rfl) (by first | rfl | (simp only [List.append_assoc, List.cons_append, List.nil_append, List.append_nil]; done)) (by first | omega | (simp only [List.length_append, List.length_cons, List.length_nil, List.length_take, List.length_drop, Int.natCast_add] at *; omega))) ?_
  refine hcons (kLenE (isX rfl) (denX rfl) (by first | omega | (simp only [List.length_append, List.length_cons, List.length_nil, List.length_take, List.length_drop, Int.natCast_add] at *; omega))) ?_
  refine hcons (kLt (isX rfl) (isZ (m := 8) rfl) (decide_eq_false (by omega))) ?_
  refine hcons (kRem (isX rfl) (isZ (m := 8) rfl) (denX rfl) (by omega) (by omega) rfl) ?_
  refine hcons (kNeI (isX rfl) (isZ (m := 0) rfl) (neF (by omega))) ?_
  refine hcons (kCat (isX rfl) (isX rfl) (denX rfl) (by first | rfl | (simp only [List.append_assoc, List.cons_append, List.nil_append, List.append_nil]; done)) (by first | omega | (simp only [List.length_append, List.length_cons, List.length_nil, List.length_take, List.length_drop, Int.natCast_add] at *; omega))) ?_
  refine hcons (kNeS (isX rfl) (isSx (l := ([] : List UInt8)) 0 0 rfl) (bnT (by first | exact nilT (by first | omega | (simp only [List.length_append, List.length_cons, List.length_nil, List.length_take, List.length_drop, Int.natCast_add] at *; omega)) | exact nilF (by first | omega | (simp only [List.length_append, List.length_cons, List.length_nil, List.length_take, List.length_drop, Int.natCast_add] at *; omega)) | exact nilT' (by first | omega | (simp only [List.length_append, List.length_cons, List.length_nil, List.length_take, List.length_drop, Int.natCast_add] at *; omega)) | exact nilF' (by first | omega | (simp only [List.length_append, List.length_cons, List.length_nil, List.length_take, List.length_drop, Int.natCast_add] at *; omega))))) ?_
  refine hcons (kIdxE (i := 0) (isX rfl) (isZ (m := 0) rfl) (denZ (m := 1) rfl) rfl (by first | omega | (simp only [List.length_append, List.length_cons, List.length_nil, List.length_take, List.length_drop, Int.natCast_add] at *; omega)) (bt_at rfl (by omega) (by omega))) ?_
  refine hcons (kLenE (isX rfl) (denX rfl) (by first | omega | (simp only [List.length_append, List.length_cons, List.length_nil, List.length_take, List.length_drop, Int.natCast_add] at *; omega))) ?_
  refine hcons (kLt (isX rfl) (isZ (m := 8) rfl) (decide_eq_false (by omega))) ?_
  refine hcons (kIdxE (i := 4) (isX rfl) (isZ (m := 4) rfl) (denX rfl) rfl (by first | omega | (simp only [List.length_append, List.length_cons, List.length_nil, List.length_take, List.length_drop, Int.natCast_add] at *; omega)) (bt_at rfl (by omega) (by omega))) ?_
  refine hcons (kConvF (isX rfl) tu3 (denX rfl) (fI64 (by omega) (by omega))) ?_
  refine hcons (kShlM 8 256 rfl (isX rfl) (isZ (m := 8) rfl) (denX rfl) rfl (by decide) rfl (fI64 (by omega) (by omega))) ?_
  refine hcons (kAdd (isZ (m := 8) rfl) (isX rfl) (denX rfl) rfl (fI64 (by omega) (by omega))) ?_
  refine hcons (kIdxE (i := 5) (isX rfl) (isZ (m := 5) rfl) (denX rfl) rfl (by first | omega | (simp only [List.length_append, List.length_cons, List.length_nil, List.length_take, List.length_drop, Int.natCast_add] at *; omega)) (bt_at rfl (by omega) (by omega))) ?_
  refine hcons (kConvF (isX rfl) tu3 (denX rfl) (fI64 (by omega) (by omega))) ?_
  refine hcons (kAdd (isX rfl) (isX rfl) (denX rfl) rfl (fI64 (by omega) (by omega))) ?_
  refine hcons (kIdxE (i := 6) (isX rfl) (isZ (m := 6) rfl) (denZ (m := 4) rfl) rfl (by first | omega | (simp only [List.length_append, List.length_cons, List.length_nil, List.length_take, List.length_drop, Int.natCast_add] at *; omega)) (bt_at rfl (by omega) (by omega))) ?_
  refine hcons (kAdd (isX rfl) (isZ (m := 4) rfl) (denX rfl) rfl (fI64 (by omega) (by omega))) ?_
  refine hcons (kLt (isX rfl) (isX rfl) (decide_eq_false (by omega))) ?_
  refine hcons (kIdxE (i := 1) (isX rfl) (isZ (m := 1) rfl) (denX rfl) rfl (by first | omega | (simp only [List.length_append, List.length_cons, List.length_nil, List.length_take, List.length_drop, Int.natCast_add] at *; omega)) (bt_at rfl (by omega) (by omega))) ?_
  refine hcons (kEqI (isX rfl) (isZ (m := 0) rfl) (decide_eq_false (by omega))) ?_
  refine hcons (kConvF (isX rfl) tu3 (denX rfl) (fI64 (by omega) (by omega))) ?_
  refine hcons (kIdxE (i := 2) (isX rfl) (isZ (m := 2) rfl) (denX rfl) rfl (by first | omega | (simp only [List.length_append, List.length_cons, List.length_nil, List.length_take, List.length_drop, Int.natCast_add] at *; omega)) (bt_at rfl (by omega) (by omega))) ?_
  refine hcons (kConvF (isX rfl) tu3 (denX rfl) (fI64 (by omega) (by omega))) ?_
  refine hcons (kShlM 8 256 rfl (isX rfl) (isZ (m := 8) rfl) (denX rfl) rfl (by decide) rfl (fI64 (by omega) (by omega))) ?_
  refine hcons (kIdxE (i := 3) (isX rfl) (isZ (m := 3) rfl) (denX rfl) rfl (by first | omega | (simp only [List.length_append, List.length_cons, List.length_nil, List.length_take, List.length_drop, Int.natCast_add] at *; omega)) (bt_at rfl (by omega) (by omega))) ?_
  refine hcons (kConvF (isX rfl) tu3 (denX rfl) (fI64 (by omega) (by omega))) ?_
  refine hcons (kOrM 8 256 rfl (isX rfl) (isX rfl) (denX rfl) (by omega) (by omega) (fI64 (by omega) (by omega)) (fI64 (by omega) (by omega)) (by omega) (by omega) rfl (fI64 (by omega) (by omega))) ?_
  refine hcons (kSub (isX rfl) (isZ (m := 4) rfl) (denX rfl) rfl (fI64 (by omega) (by omega))) ?_
  refine hcons (kCut (isX rfl) (.inr ⟨_, _, rfl, (isZ (m := 8) rfl)⟩) (.inr ⟨_, _, rfl, (isX rfl)⟩) (p := [u8 1, u8 (t), u8 (id / 256), u8 (id % 256), u8 ((((c.length : Int)) / 256) % 256), u8 (((c.length : Int)) % 256), u8 4, u8 0]) (m := c) (q := ([u8 0, u8 0, u8 0, u8 0] ++ more)) (by first | rfl | (simp only [List.append_assoc, List.cons_append, List.nil_append, List.append_nil]; done)) (by first | omega | (simp only [List.length_append, List.length_cons, List.length_nil, List.length_take, List.length_drop, Int.natCast_add] at *; omega)) (by first | omega | (simp only [List.length_append, List.length_cons, List.length_nil, List.length_take, List.length_drop, Int.natCast_add] at *; omega)) (denX rfl)) ?_
  refine hcons (kCut (isX rfl) (.inr ⟨_, _, rfl, (isX rfl)⟩) (.inl ⟨rfl, rfl⟩) (p := ([u8 1, u8 (t), u8 (id / 256), u8 (id % 256), u8 ((((c.length : Int)) / 256) % 256), u8 (((c.length : Int)) % 256), u8 4, u8 0] ++ (c ++ [u8 0, u8 0, u8 0, u8 0]))) (m := more) (q := ([] : List UInt8)) (by first | rfl | (simp only [List.append_assoc, List.cons_append, List.nil_append, List.append_nil]; done)) (by first | omega | (simp only [List.length_append, List.length_cons, List.length_nil, List.length_take, List.length_drop, Int.natCast_add] at *; omega)) (by first | omega | (simp only [List.length_append, List.length_cons, List.length_nil, List.length_take, List.length_drop, Int.natCast_add] at *; omega)) (denX rfl)) ?_
  refine hcons (kConvF (isX rfl) tu3 (denX rfl) (fI64 (by omega) (by omega))) ?_
  refine hcons (kRem (isX rfl) (isX rfl) (denX rfl) (by omega) (by omega) rfl) ?_
  refine hcons (kTake (isX rfl) (isX rfl) (by first | omega | (simp only [List.length_append, List.length_cons, List.length_nil, List.length_take, List.length_drop, Int.natCast_add] at *; omega)) (by first | omega | (simp only [List.length_append, List.length_cons, List.length_nil, List.length_take, List.length_drop, Int.natCast_add] at *; omega)) (denX rfl)) ?_
  refine hcons (kNeS (isX rfl) (isSx (l := ([] : List UInt8)) 0 0 rfl) (bnT (by first | exact nilT (by first | omega | (simp only [List.length_append, List.length_cons, List.length_nil, List.length_take, List.length_drop, Int.natCast_add] at *; omega)) | exact nilF (by first | omega | (simp only [List.length_append, List.length_cons, List.length_nil, List.length_take, List.length_drop, Int.natCast_add] at *; omega)) | exact nilT' (by first | omega | (simp only [List.length_append, List.length_cons, List.length_nil, List.length_take, List.length_drop, Int.natCast_add] at *; omega)) | exact nilF' (by first | omega | (simp only [List.length_append, List.length_cons, List.length_nil, List.length_take, List.length_drop, Int.natCast_add] at *; omega))))) ?_
  refine hcons (kIdxE (i := 0) (isX rfl) (isZ (m := 0) rfl) (denZ (m := 1) rfl) rfl (by first | omega | (simp only [List.length_append, List.length_cons, List.length_nil, List.length_take, List.length_drop, Int.natCast_add] at *; omega)) ((bt_take (by omega)).trans (bt_at rfl (by omega) (by omega)))) ?_
  refine hcons (kLenE (isX rfl) (denX rfl) (by first | omega | (simp only [List.length_append, List.length_cons, List.length_nil, List.length_take, List.length_drop, Int.natCast_add] at *; omega))) ?_
  refine hcons (kLt (isX rfl) (isZ (m := 8) rfl) (decide_eq_true (by omega))) ?_
  refine hcons (kEqT (isX rfl) (isX rfl) tu3 (decide_eq_true (by omega))) ?_
  refine hcons (kEqT (isX rfl) (isX rfl) tu3 (decide_eq_true (by omega))) ?_
  refine hcons (kEqTS (isX rfl) (isX rfl) tu9 (decide_eq_true rfl)) ?_
  refine hcons (kEqS (isX rfl) (isX rfl) (decide_eq_true rfl)) ?_
  exact hnil
theorem path13 (t : Int) (id : Int) (c : List UInt8) (more : List UInt8) (cut : Int) (b0 : 0 ≤ t) (b1 : t ≤ 255) (b2 : 0 ≤ id) (b3 : id ≤ 65535) (b4 : c.length ≤ 9223372036854775807) (b5 : more.length ≤ 9223372036854775807) (b6 : 0 ≤ cut) (b7 : cut ≤ 65535) (h0 : ¬ (2000 < (c.length : Int))) (h1 : ¬ (200 < (more.length : Int))) (h2 : ¬ (t = 0)) (h3 : ¬ ((-(max ((c.length : Int)) 0)) % 8 = 0)) (h4 : ¬ ((-(max ((c.length : Int)) 0)) % 8 = 1)) (h5 : ¬ ((-(max ((c.length : Int)) 0)) % 8 = 2)) (h6 : ¬ ((-(max ((c.length : Int)) 0)) % 8 = 3)) (h7 : (-(max ((c.length : Int)) 0)) % 8 = 4) (h19 : ¬ ((cut % ((c.length : Int) + 12)) = 0)) (h20 : (cut % ((c.length : Int) + 12)) < 8) (w : World) (hl : laidE w) : Calls Try.prog 3 #[.int .u8 t, .int .u16 id, St' c, .bool true, St' more, .int .u16 cut] w fun e w' => e = .returned (.bool true) ∧ Go.AX.Below w.heap.size w w' := by
  obtain ⟨fi, hfi, hb⟩ : ∃ fi, tabk.fn.get 3 = some fi ∧ fi.body.isSome = true := ⟨_, rfl, by kernel_rfl⟩
  exact runP (tb := tab13) ((tabkOk (nuL (nu13 t id c more cut)) (one13 t id c more cut)).hyps (hyOk13 t id c more cut b0 b1 b2 b3 b4 b5 b6 b7 h0 h1 h2 h3 h4 h5 h6 h7 h19 h20)) rfl hfi hb (run13 ) (args := [.int .u8 t, .int .u16 id, St' c, .bool true, St' more, .int .u16 cut]) (by simp only [RelL, Rel]; exact ⟨_, _, rfl, rfl, ⟨_, _, rfl, rfl, ⟨_, _, rfl, rfl, ⟨_, _, rfl, rfl, ⟨_, _, rfl, rfl, ⟨_, _, rfl, rfl, rfl⟩⟩⟩⟩⟩⟩) w hl
def hy14 : List (HK × AV) := [(.len (.x 2), .x 5),
  (.bin .gtr (.x 5) (.i .i64 (.ofNat 2000)), .b false),
  (.len (.x 3), .x 6),
  (.bin .gtr (.x 6) (.i .i64 (.ofNat 200)), .b false),
  (.bin .eql (.x 0) (.i .u8 (.ofNat 0)), .b false),
  (.conv 3 (.x 0), .x 7),
  (.conv 3 (.x 1), .x 8),
  (.mm true (.x 5) (.i .i64 (.ofNat 0)), .x 9),
  (.un .neg (.x 9), .x 10),
  (.bin .and (.x 10) (.i .i64 (.ofNat 7)), .i .i64 (.ofNat 4)),
  (.bin .geq (.x 7) (.i .i64 (.ofNat 1)), .b true),
  (.bin .leq (.x 7) (.i .i64 (.ofNat 255)), .b true),
  (.bin .geq (.x 8) (.i .i64 (.ofNat 0)), .b true),
  (.bin .leq (.x 8) (.i .i64 (.ofNat 65535)), .b true),
  (.bin .leq (.x 5) (.i .i64 (.ofNat 65535)), .b true),
  (.conv 5 (.x 7), .x 11),
  (.bin .shr (.x 8) (.i .u64 (.ofNat 8)), .x 12),
  (.conv 5 (.x 12), .x 13),
  (.conv 5 (.x 8), .x 14),
  (.bin .shr (.x 5) (.i .u64 (.ofNat 8)), .x 15),
  (.conv 5 (.x 15), .x 16),
  (.conv 5 (.x 5), .x 17),
  (.bytes [.i .u8 (.ofNat 1), .x 11, .x 13, .x 14, .x 16, .x 17, .i .u8 (.ofNat 4), .i .u8 (.ofNat 0)], .x 18),
  (.bin .add (.x 18) (.x 2), .x 19),
  (.bin .add (.x 19) (.s 4 0), .x 20),
  (.len (.x 20), .x 21),
  (.bin .lss (.x 21) (.i .i64 (.ofNat 8)), .b false),
  (.bin .rem (.x 21) (.i .i64 (.ofNat 8)), .x 22),
  (.bin .neq (.x 22) (.i .i64 (.ofNat 0)), .b false),
  (.bin .add (.x 20) (.x 3), .x 23),
  (.bin .neq (.x 23) (.s 0 0), .b true),
  (.idx (.x 23) (.i .i64 (.ofNat 0)), .i .u8 (.ofNat 1)),
  (.len (.x 23), .x 24),
  (.bin .lss (.x 24) (.i .i64 (.ofNat 8)), .b false),
  (.idx (.x 23) (.i .i64 (.ofNat 4)), .x 25),
  (.conv 3 (.x 25), .x 26),
  (.bin .shl (.x 26) (.i .u64 (.ofNat 8)), .x 27),
  (.bin .add (.i .i64 (.ofNat 8)) (.x 27), .x 28),
  (.idx (.x 23) (.i .i64 (.ofNat 5)), .x 29),
  (.conv 3 (.x 29), .x 30),
  (.bin .add (.x 28) (.x 30), .x 31),
  (.idx (.x 23) (.i .i64 (.ofNat 6)), .i .u8 (.ofNat 4)),
  (.bin .add (.x 31) (.i .i64 (.ofNat 4)), .x 32),
  (.bin .lss (.x 24) (.x 32), .b false),
  (.idx (.x 23) (.i .i64 (.ofNat 1)), .x 33),
  (.bin .eql (.x 33) (.i .u8 (.ofNat 0)), .b false),
  (.conv 3 (.x 33), .x 34),
  (.idx (.x 23) (.i .i64 (.ofNat 2)), .x 35),
  (.conv 3 (.x 35), .x 36),
  (.bin .shl (.x 36) (.i .u64 (.ofNat 8)), .x 37),
  (.idx (.x 23) (.i .i64 (.ofNat 3)), .x 38),
  (.conv 3 (.x 38), .x 39),
  (.bin .or (.x 37) (.x 39), .x 40),
  (.bin .sub (.x 32) (.i .i64 (.ofNat 4)), .x 41),
  (.sub (.x 23) (some (.i .i64 (.ofNat 8))) (some (.x 41)), .x 42),
  (.sub (.x 23) (some (.x 32)) none, .x 43),
  (.conv 3 (.x 4), .x 44),
  (.bin .rem (.x 44) (.x 21), .x 45),
  (.sub (.x 20) none (some (.x 45)), .x 46),
  (.bin .neq (.x 46) (.s 0 0), .b true),
  (.idx (.x 46) (.i .i64 (.ofNat 0)), .i .u8 (.ofNat 1)),
  (.len (.x 46), .x 47),
  (.bin .lss (.x 47) (.i .i64 (.ofNat 8)), .b false),
  (.idx (.x 46) (.i .i64 (.ofNat 4)), .x 48),
  (.conv 3 (.x 48), .x 49),
  (.bin .shl (.x 49) (.i .u64 (.ofNat 8)), .x 50),
  (.bin .add (.i .i64 (.ofNat 8)) (.x 50), .x 51),
  (.idx (.x 46) (.i .i64 (.ofNat 5)), .x 52),
  (.conv 3 (.x 52), .x 53),
  (.bin .add (.x 51) (.x 53), .x 54),
  (.idx (.x 46) (.i .i64 (.ofNat 6)), .i .u8 (.ofNat 4)),
  (.bin .add (.x 54) (.i .i64 (.ofNat 4)), .x 55),
  (.bin .lss (.x 47) (.x 55), .b true),
  (.eq 3 (.x 34) (.x 7), .b true),
  (.eq 3 (.x 40) (.x 8), .b true),
  (.eq 9 (.x 42) (.x 2), .b true),
  (.bin .eql (.x 43) (.x 3), .b true)]
noncomputable def tab14 : Tab := { tabk with hyp := hy14 }
theorem run14 : okB (call tab14 9000 3 [.x 0, .x 1, .x 2, .b true, .x 3, .x 4] ⟨H0 , 1, 0, 0⟩) = true := by kernel_rfl
def nu14 (t : Int) (id : Int) (c : List UInt8) (more : List UInt8) (cut : Int) : List Value := [.int .u8 (t),
  .int .u16 (id),
  St' c,
  St' more,
  .int .u16 (cut),
  .int .i64 ((c.length : Int)),
  .int .i64 ((more.length : Int)),
  .int .i64 (t),
  .int .i64 (id),
  .int .i64 (max ((c.length : Int)) 0),
  .int .i64 (-(max ((c.length : Int)) 0)),
  .int .u8 (t),
  .int .i64 (id / 256),
  .int .u8 (id / 256),
  .int .u8 (id % 256),
  .int .i64 (((c.length : Int)) / 256),
  .int .u8 ((((c.length : Int)) / 256) % 256),
  .int .u8 (((c.length : Int)) % 256),
  St' ([u8 1, u8 (t), u8 (id / 256), u8 (id % 256), u8 ((((c.length : Int)) / 256) % 256), u8 (((c.length : Int)) % 256), u8 4, u8 0]),
  St' (([u8 1, u8 (t), u8 (id / 256), u8 (id % 256), u8 ((((c.length : Int)) / 256) % 256), u8 (((c.length : Int)) % 256), u8 4, u8 0] ++ c)),
  St' (([u8 1, u8 (t), u8 (id / 256), u8 (id % 256), u8 ((((c.length : Int)) / 256) % 256), u8 (((c.length : Int)) % 256), u8 4, u8 0] ++ (c ++ [u8 0, u8 0, u8 0, u8 0]))),
  .int .i64 ((c.length : Int) + 12),
  .int .i64 (((c.length : Int) + 12) % 8),
  St' (([u8 1, u8 (t), u8 (id / 256), u8 (id % 256), u8 ((((c.length : Int)) / 256) % 256), u8 (((c.length : Int)) % 256), u8 4, u8 0] ++ (c ++ ([u8 0, u8 0, u8 0, u8 0] ++ more)))),
  .int .i64 ((c.length : Int) + (more.length : Int) + 12),
  .int .u8 ((((c.length : Int)) / 256) % 256),
  .int .i64 ((((c.length : Int)) / 256) % 256),
  .int .i64 (((((c.length : Int)) / 256) % 256) * 256),
  .int .i64 (8 + (((((c.length : Int)) / 256) % 256) * 256)),
  .int .u8 (((c.length : Int)) % 256),
  .int .i64 (((c.length : Int)) % 256),
  .int .i64 ((8 + (((((c.length : Int)) / 256) % 256) * 256)) + (((c.length : Int)) % 256)),
  .int .i64 (((8 + (((((c.length : Int)) / 256) % 256) * 256)) + (((c.length : Int)) % 256)) + 4),
  .int .u8 (t),
  .int .i64 (t),
  .int .u8 (id / 256),
  .int .i64 (id / 256),
  .int .i64 ((id / 256) * 256),
  .int .u8 (id % 256),
  .int .i64 (id % 256),
  .int .i64 (((id / 256) * 256) + (id % 256)),
  .int .i64 ((((8 + (((((c.length : Int)) / 256) % 256) * 256)) + (((c.length : Int)) % 256)) + 4) - 4),
  St' c,
  St' more,
  .int .i64 (cut),
  .int .i64 (cut % ((c.length : Int) + 12)),
  St' ((List.take (cut % ((c.length : Int) + 12)).toNat (([u8 1, u8 (t), u8 (id / 256), u8 (id % 256), u8 ((((c.length : Int)) / 256) % 256), u8 (((c.length : Int)) % 256), u8 4, u8 0] ++ (c ++ [u8 0, u8 0, u8 0, u8 0]))))),
  .int .i64 ((cut % ((c.length : Int) + 12))),
  .int .u8 ((((c.length : Int)) / 256) % 256),
  .int .i64 ((((c.length : Int)) / 256) % 256),
  .int .i64 (((((c.length : Int)) / 256) % 256) * 256),
  .int .i64 (8 + (((((c.length : Int)) / 256) % 256) * 256)),
  .int .u8 (((c.length : Int)) % 256),
  .int .i64 (((c.length : Int)) % 256),
  .int .i64 ((8 + (((((c.length : Int)) / 256) % 256) * 256)) + (((c.length : Int)) % 256)),
  .int .i64 (((8 + (((((c.length : Int)) / 256) % 256) * 256)) + (((c.length : Int)) % 256)) + 4)]
theorem one14 (t : Int) (id : Int) (c : List UInt8) (more : List UInt8) (cut : Int) : ∀ j, (nuL (nu14 t id c more cut) j).oneCell' = true := nuL_one (l := nu14 t id c more cut) rfl
set_option maxHeartbeats 2000000 in
theorem hyOk14 (t : Int) (id : Int) (c : List UInt8) (more : List UInt8) (cut : Int) (b0 : 0 ≤ t) (b1 : t ≤ 255) (b2 : 0 ≤ id) (b3 : id ≤ 65535) (b4 : c.length ≤ 9223372036854775807) (b5 : more.length ≤ 9223372036854775807) (b6 : 0 ≤ cut) (b7 : cut ≤ 65535) (h0 : ¬ (2000 < (c.length : Int))) (h1 : ¬ (200 < (more.length : Int))) (h2 : ¬ (t = 0)) (h3 : ¬ ((-(max ((c.length : Int)) 0)) % 8 = 0)) (h4 : ¬ ((-(max ((c.length : Int)) 0)) % 8 = 1)) (h5 : ¬ ((-(max ((c.length : Int)) 0)) % 8 = 2)) (h6 : ¬ ((-(max ((c.length : Int)) 0)) % 8 = 3)) (h7 : (-(max ((c.length : Int)) 0)) % 8 = 4) (h19 : ¬ ((cut % ((c.length : Int) + 12)) = 0)) (h20 : ¬ ((cut % ((c.length : Int) + 12)) < 8)) : ∀ k r, (k, r) ∈ hy14 → HOk (cx (nuL (nu14 t id c more cut)) (one14 t id c more cut) 0 laidE laidE_stab) k r := by
  have := Int.emod_nonneg cut (show ((c.length : Int) + 12) ≠ 0 by omega); have := Int.emod_lt_of_pos cut (show 0 < ((c.length : Int) + 12) by omega)
  unfold hy14
  refine hcons (kLenE (isX rfl) (denX rfl) (by first | omega | (simp only [List.length_append, List.length_cons, List.length_nil, List.length_take, List.length_drop, Int.natCast_add] at *; omega))) ?_
  refine hcons (kGt (isX rfl) (isZ (m := 2000) rfl) (decide_eq_false (by omega))) ?_
  refine hcons (kLenE (isX rfl) (denX rfl) (by first | omega | (simp only [List.length_append, List.length_cons, List.length_nil, List.length_take, List.length_drop, Int.natCast_add] at *; omega))) ?_
  refine hcons (kGt (isX rfl) (isZ (m := 200) rfl) (decide_eq_false (by omega))) ?_
  refine hcons (kEqI (isX rfl) (isZ (m := 0) rfl) (decide_eq_false (by omega))) ?_
  refine hcons (kConvF (isX rfl) tu3 (denX rfl) (fI64 (by omega) (by omega))) ?_
  refine hcons (kConvF (isX rfl) tu3 (denX rfl) (fI64 (by omega) (by omega))) ?_
  refine hcons (kMax (isX rfl) (isZ (m := 0) rfl) (denX rfl) rfl) ?_
  refine hcons (kNeg (isX rfl) (denX rfl) rfl (fI64 (by omega) (by omega))) ?_
  refine hcons (kAndG 3 8 rfl (by decide) (isX rfl) (isZ (m := 7) rfl) (denZ (m := 4) rfl) (fI64 (by omega) (by omega)) rfl (by omega) (fI64 (by omega) (by omega))) ?_
  refine hcons (kGe (isX rfl) (isZ (m := 1) rfl) (decide_eq_true (by omega))) ?_
  refine hcons (kLe (isX rfl) (isZ (m := 255) rfl) (decide_eq_true (by omega))) ?_
  refine hcons (kGe (isX rfl) (isZ (m := 0) rfl) (decide_eq_true (by omega))) ?_
  refine hcons (kLe (isX rfl) (isZ (m := 65535) rfl) (decide_eq_true (by omega))) ?_
  refine hcons (kLe (isX rfl) (isZ (m := 65535) rfl) (decide_eq_true (by omega))) ?_
  refine hcons (kConvF (isX rfl) tu5 (denX rfl) (fU8 (by omega) (by omega))) ?_
  refine hcons (kShrM 8 256 rfl (isX rfl) (isZ (m := 8) rfl) (denX rfl) rfl (by decide) (by omega) rfl) ?_
  refine hcons (kConvF (isX rfl) tu5 (denX rfl) (fU8 (by omega) (by omega))) ?_
  refine hcons (kConv8 (isX rfl) tu5 (denX rfl) rfl) ?_
  refine hcons (kShrM 8 256 rfl (isX rfl) (isZ (m := 8) rfl) (denX rfl) rfl (by decide) (by omega) rfl) ?_
  refine hcons (kConv8 (isX rfl) tu5 (denX rfl) rfl) ?_
  refine hcons (kConv8 (isX rfl) tu5 (denX rfl) rfl) ?_
  refine hcons (kBytesB (bs := [u8 1, u8 (t), u8 (id / 256), u8 (id % 256), u8 ((((c.length : Int)) / 256) % 256), u8 (((c.length : Int)) % 256), u8 4, u8 0]) (.cons (isB8 (isZ (m := 1) rfl) (by omega) (by omega)) (.cons (isB8 (isX rfl) (by omega) (by omega)) (.cons (isB8 (isX rfl) (by omega) (by omega)) (.cons (isB8 (isX rfl) (by omega) (by omega)) (.cons (isB8 (isX rfl) (by omega) (by omega)) (.cons (isB8 (isX rfl) (by omega) (by omega)) (.cons (isB8 (isZ (m := 4) rfl) (by omega) (by omega)) (.cons (isB8 (isZ (m := 0) rfl) (by omega) (by omega)) .nil)))))))) (denX rfl)) ?_
  refine hcons (kCat (isX rfl) (isX rfl) (denX rfl) (by first | rfl | (simp only [List.append_assoc, List.cons_append, List.nil_append, List.append_nil]; done)) (by first | omega | (simp only [List.length_append, List.length_cons, List.length_nil, List.length_take, List.length_drop, Int.natCast_add] at *; omega))) ?_
  refine hcons (kCat (isX rfl) (isSx (l := [u8 0, u8 0, u8 0, u8 0]) 4 0 rfl) (denX rfl) (by first | rfl | (simp only [List.append_assoc, List.cons_append, List.nil_append, List.append_nil]; done)) (by first | omega | (simp only [List.length_append, List.length_cons, List.length_nil, List.length_take, List.length_drop, Int.natCast_add] at *; omega))) ?_
  refine hcons (kLenE (isX rfl) (denX rfl) (by first | omega | (simp only [List.length_append, List.length_cons, List.length_nil, List.length_take, List.length_drop, Int.natCast_add] at *; omega))) ?_
  refine hcons (kLt (isX rfl) (isZ (m := 8) rfl) (decide_eq_false (by omega))) ?_
  refine hcons (kRem (isX rfl) (isZ (m := 8) rfl) (denX rfl) (by omega) (by omega) rfl) ?_
  refine hcons (kNeI (isX rfl) (isZ (m := 0) rfl) (neF (by omega))) ?_
  refine hcons (kCat (isX rfl) (isX rfl) (denX rfl) (by first | rfl | (simp only [List.append_assoc, List.cons_append, List.nil_append, List.append_nil]; done)) (by first | omega | (simp only [List.length_append, List.length_cons, List.length_nil, List.length_take, List.length_drop, Int.natCast_add] at *; omega))) ?_
  refine hcons (kNeS (isX rfl) (isSx (l := ([] : List UInt8)) 0 0 rfl) (bnT (by first | exact nilT (by first | omega | (simp only [List.length_append, List.length_cons, List.length_nil, List.length_take, List.length_drop, Int.natCast_add] at *; omega)) | exact nilF (by first | omega | (simp only [List.length_append, List.length_cons, List.length_nil, List.length_take, List.length_drop, Int.natCast_add] at *; omega)) | exact nilT' (by first | omega | (simp only [List.length_append, List.length_cons, List.length_nil, List.length_take, List.length_drop, Int.natCast_add] at *; omega)) | exact nilF' (by first | omega | (simp only [List.length_append, List.length_cons, List.length_nil, List.length_take, List.length_drop, Int.natCast_add] at *; omega))))) ?_
  refine hcons (kIdxE (i := 0) (isX rfl) (isZ (m := 0) rfl) (denZ (m := 1) rfl) rfl (by first | omega | (simp only [List.length_append, List.length_cons, List.length_nil, List.length_take, List.length_drop, Int.natCast_add] at *; omega)) (bt_at rfl (by omega) (by omega))) ?_
  refine hcons (kLenE (isX rfl) (denX rfl) (by first | omega | (simp only [List.length_append, List.length_cons, List.length_nil, List.length_take, List.length_drop, Int.natCast_add] at *; omega))) ?_
  refine hcons (kLt (isX rfl) (isZ (m := 8) rfl) (decide_eq_false (by omega))) ?_
  refine hcons (kIdxE (i := 4) (isX rfl) (isZ (m := 4) rfl) (denX rfl) rfl (by first | omega | (simp only [List.length_append, List.length_cons, List.length_nil, List.length_take, List.length_drop, Int.natCast_add] at *; omega)) (bt_at rfl (by omega) (by omega))) ?_
  refine hcons (kConvF (isX rfl) tu3 (denX rfl) (fI64 (by omega) (by omega))) ?_
  refine hcons (kShlM 8 256 rfl (isX rfl) (isZ (m := 8) rfl) (denX rfl) rfl (by decide) rfl (fI64 (by omega) (by omega))) ?_
  refine hcons (kAdd (isZ (m := 8) rfl) (isX rfl) (denX rfl) rfl (fI64 (by omega) (by omega))) ?_
  refine hcons (kIdxE (i := 5) (isX rfl) (isZ (m := 5) rfl) (denX rfl) rfl (by first | omega | (simp only [List.length_append, List.length_cons, List.length_nil, List.length_take, List.length_drop, Int.natCast_add] at *; omega)) (bt_at rfl (by omega) (by omega))) ?_
  refine hcons (kConvF (isX rfl) tu3 (denX rfl) (fI64 (by omega) (by omega))) ?_
  refine hcons (kAdd (isX rfl) (isX rfl) (denX rfl) rfl (fI64 (by omega) (by omega))) ?_
  refine hcons (kIdxE (i := 6) (isX rfl) (isZ (m := 6) rfl) (denZ (m := 4) rfl) rfl (by first | omega | (simp only [List.length_append, List.length_cons, List.length_nil, List.length_take, List.length_drop, Int.natCast_add] at *; omega)) (bt_at rfl (by omega) (by omega))) ?_
  refine hcons (kAdd (isX rfl) (isZ (m := 4) rfl) (denX rfl) rfl (fI64 (by omega) (by omega))) ?_
  refine hcons (kLt (isX rfl) (isX rfl) (decide_eq_false (by omega))) ?_
  refine hcons (kIdxE (i := 1) (isX rfl) (isZ (m := 1) rfl) (denX rfl) rfl (by first | omega | (simp only [List.length_append, List.length_cons, List.length_nil, List.length_take, List.length_drop, Int.natCast_add] at *; omega)) (bt_at rfl (by omega) (by omega))) ?_
  refine hcons (kEqI (isX rfl) (isZ (m := 0) rfl) (decide_eq_false (by omega))) ?_
  refine hcons (kConvF (isX rfl) tu3 (denX rfl) (fI64 (by omega) (by omega))) ?_
  refine hcons (kIdxE (i := 2) (isX rfl) (isZ (m := 2) rfl) (denX rfl) rfl (by first | omega | (simp only [List.length_append, List.length_cons, List.length_nil, List.length_take, List.length_drop, Int.natCast_add] at *; omega)) (bt_at rfl (by omega) (by omega))) ?_
  refine hcons (kConvF (isX rfl) tu3 (denX rfl) (fI64 (by omega) (by omega))) ?_
  refine hcons (kShlM 8 256 rfl (isX rfl) (isZ (m := 8) rfl) (denX rfl) rfl (by decide) rfl (fI64 (by omega) (by omega))) ?_
  refine hcons (kIdxE (i := 3) (isX rfl) (isZ (m := 3) rfl) (denX rfl) rfl (by first | omega | (simp only [List.length_append, List.length_cons, List.length_nil, List.length_take, List.length_drop, Int.natCast_add] at *; omega)) (bt_at rfl (by omega) (by omega))) ?_
  refine hcons (kConvF (isX rfl) tu3 (denX rfl) (fI64 (by omega) (by omega))) ?_
  refine hcons (kOrM 8 256 rfl (isX rfl) (isX rfl) (denX rfl) (by omega) (by omega) (fI64 (by omega) (by omega)) (fI64 (by omega) (by omega)) (by omega) (by omega) rfl (fI64 (by omega) (by omega))) ?_
  refine hcons (kSub (isX rfl) (isZ (m := 4) rfl) (denX rfl) rfl (fI64 (by omega) (by omega))) ?_
  refine hcons (kCut (isX rfl) (.inr ⟨_, _, rfl, (isZ (m := 8) rfl)⟩) (.inr ⟨_, _, rfl, (isX rfl)⟩) (p := [u8 1, u8 (t), u8 (id / 256), u8 (id % 256), u8 ((((c.length : Int)) / 256) % 256), u8 (((c.length : Int)) % 256), u8 4, u8 0]) (m := c) (q := ([u8 0, u8 0, u8 0, u8 0] ++ more)) (by first | rfl | (simp only [List.append_assoc, List.cons_append, List.nil_append, List.append_nil]; done)) (by first | omega | (simp only [List.length_append, List.length_cons, List.length_nil, List.length_take, List.length_drop, Int.natCast_add] at *; omega)) (by first | omega | (simp only [List.length_append, List.length_cons, List.length_nil, List.length_take, List.length_drop, Int.natCast_add] at *; omega)) (denX rfl)) ?_
  refine hcons (kCut (isX rfl) (.inr ⟨_, _, rfl, (isX rfl)⟩) (.inl ⟨rfl, rfl⟩) (p := ([u8 1, u8 (t), u8 (id / 256), u8 (id % 256), u8 ((((c.length : Int)) / 256) % 256), u8 (((c.length : Int)) % 256), u8 4, u8 0] ++ (c ++ [u8 0, u8 0, u8 0, u8 0]))) (m := more) (q := ([] : List UInt8)) (by first | rfl | (simp only [List.append_assoc, List.cons_append, List.nil_append, List.append_nil]; done)) (by first | omega | (simp only [List.length_append, List.length_cons, List.length_nil, List.length_take, List.length_drop, Int.natCast_add] at *; omega)) (by first | omega | (simp only [List.length_append, List.length_cons, List.length_nil, List.length_take, List.length_drop, Int.natCast_add] at *; omega)) (denX rfl)) ?_
  refine hcons (kConvF (isX rfl) tu3 (denX rfl) (fI64 (by omega) (by omega))) ?_
  refine hcons (kRem (isX rfl) (isX rfl) (denX rfl) (by omega) (by omega) rfl) ?_
  refine hcons (kTake (isX rfl) (isX rfl) (by first | omega | (simp only [List.length_append, List.length_cons, List.length_nil, List.length_take, List.length_drop, Int.natCast_add] at *; omega)) (by first | omega | (simp only [List.length_append, List.length_cons, List.length_nil, List.length_take, List.length_drop, Int.natCast_add] at *; omega)) (denX rfl)) ?_
  refine hcons (kNeS (isX rfl) (isSx (l := ([] : List UInt8)) 0 0 rfl) (bnT (by first | exact nilT (by first | omega | (simp only [List.length_append, List.length_cons, List.length_nil, List.length_take, List.length_drop, Int.natCast_add] at *; omega)) | exact nilF (by first | omega | (simp only [List.length_append, List.length_cons, List.length_nil, List.length_take, List.length_drop, Int.natCast_add] at *; omega)) | exact nilT' (by first | omega | (simp only [List.length_append, List.length_cons, List.length_nil, List.length_take, List.length_drop, Int.natCast_add] at *; omega)) | exact nilF' (by first | omega | (simp only [List.length_append, List.length_cons, List.length_nil, List.length_take, List.length_drop, Int.natCast_add] at *; omega))))) ?_
  refine hcons (kIdxE (i := 0) (isX rfl) (isZ (m := 0) rfl) (denZ (m := 1) rfl) rfl (by first | omega | (simp only [List.length_append, List.length_cons, List.length_nil, List.length_take, List.length_drop, Int.natCast_add] at *; omega)) ((bt_take (by omega)).trans (bt_at rfl (by omega) (by omega)))) ?_
  refine hcons (kLenE (isX rfl) (denX rfl) (by first | omega | (simp only [List.length_append, List.length_cons, List.length_nil, List.length_take, List.length_drop, Int.natCast_add] at *; omega))) ?_
  refine hcons (kLt (isX rfl) (isZ (m := 8) rfl) (decide_eq_false (by omega))) ?_
  refine hcons (kIdxE (i := 4) (isX rfl) (isZ (m := 4) rfl) (denX rfl) rfl (by first | omega | (simp only [List.length_append, List.length_cons, List.length_nil, List.length_take, List.length_drop, Int.natCast_add] at *; omega)) ((bt_take (by omega)).trans (bt_at rfl (by omega) (by omega)))) ?_
  refine hcons (kConvF (isX rfl) tu3 (denX rfl) (fI64 (by omega) (by omega))) ?_
  refine hcons (kShlM 8 256 rfl (isX rfl) (isZ (m := 8) rfl) (denX rfl) rfl (by decide) rfl (fI64 (by omega) (by omega))) ?_
  refine hcons (kAdd (isZ (m := 8) rfl) (isX rfl) (denX rfl) rfl (fI64 (by omega) (by omega))) ?_
  refine hcons (kIdxE (i := 5) (isX rfl) (isZ (m := 5) rfl) (denX rfl) rfl (by first | omega | (simp only [List.length_append, List.length_cons, List.length_nil, List.length_take, List.length_drop, Int.natCast_add] at *; omega)) ((bt_take (by omega)).trans (bt_at rfl (by omega) (by omega)))) ?_
  refine hcons (kConvF (isX rfl) tu3 (denX rfl) (fI64 (by omega) (by omega))) ?_
  refine hcons (kAdd (isX rfl) (isX rfl) (denX rfl) rfl (fI64 (by omega) (by omega))) ?_
  refine hcons (kIdxE (i := 6) (isX rfl) (isZ (m := 6) rfl) (denZ (m := 4) rfl) rfl (by first | omega | (simp only [List.length_append, List.length_cons, List.length_nil, List.length_take, List.length_drop, Int.natCast_add] at *; omega)) ((bt_take (by omega)).trans (bt_at rfl (by omega) (by omega)))) ?_
  refine hcons (kAdd (isX rfl) (isZ (m := 4) rfl) (denX rfl) rfl (fI64 (by omega) (by omega))) ?_
  refine hcons (kLt (isX rfl) (isX rfl) (decide_eq_true (by omega))) ?_
  refine hcons (kEqT (isX rfl) (isX rfl) tu3 (decide_eq_true (by omega))) ?_
  refine hcons (kEqT (isX rfl) (isX rfl) tu3 (decide_eq_true (by omega))) ?_
  refine hcons (kEqTS (isX rfl) (isX rfl) tu9 (decide_eq_true rfl)) ?_
  refine hcons (kEqS (isX rfl) (isX rfl) (decide_eq_true rfl)) ?_
  exact hnil
theorem path14 (t : Int) (id : Int) (c : List UInt8) (more : List UInt8) (cut : Int) (b0 : 0 ≤ t) (b1 : t ≤ 255) (b2 : 0 ≤ id) (b3 : id ≤ 65535) (b4 : c.length ≤ 9223372036854775807) (b5 : more.length ≤ 9223372036854775807) (b6 : 0 ≤ cut) (b7 : cut ≤ 65535) (h0 : ¬ (2000 < (c.length : Int))) (h1 : ¬ (200 < (more.length : Int))) (h2 : ¬ (t = 0)) (h3 : ¬ ((-(max ((c.length : Int)) 0)) % 8 = 0)) (h4 : ¬ ((-(max ((c.length : Int)) 0)) % 8 = 1)) (h5 : ¬ ((-(max ((c.length : Int)) 0)) % 8 = 2)) (h6 : ¬ ((-(max ((c.length : Int)) 0)) % 8 = 3)) (h7 : (-(max ((c.length : Int)) 0)) % 8 = 4) (h19 : ¬ ((cut % ((c.length : Int) + 12)) = 0)) (h20 : ¬ ((cut % ((c.length : Int) + 12)) < 8)) (w : World) (hl : laidE w) : Calls Try.prog 3 #[.int .u8 t, .int .u16 id, St' c, .bool true, St' more, .int .u16 cut] w fun e w' => e = .returned (.bool true) ∧ Go.AX.Below w.heap.size w w' := by
  obtain ⟨fi, hfi, hb⟩ : ∃ fi, tabk.fn.get 3 = some fi ∧ fi.body.isSome = true := ⟨_, rfl, by kernel_rfl⟩
  exact runP (tb := tab14) ((tabkOk (nuL (nu14 t id c more cut)) (one14 t id c more cut)).hyps (hyOk14 t id c more cut b0 b1 b2 b3 b4 b5 b6 b7 h0 h1 h2 h3 h4 h5 h6 h7 h19 h20)) rfl hfi hb (run14 ) (args := [.int .u8 t, .int .u16 id, St' c, .bool true, St' more, .int .u16 cut]) (by simp only [RelL, Rel]; exact ⟨_, _, rfl, rfl, ⟨_, _, rfl, rfl, ⟨_, _, rfl, rfl, ⟨_, _, rfl, rfl, ⟨_, _, rfl, rfl, ⟨_, _, rfl, rfl, rfl⟩⟩⟩⟩⟩⟩) w hl
def hy15 : List (HK × AV) := [(.len (.x 2), .x 5),
  (.bin .gtr (.x 5) (.i .i64 (.ofNat 2000)), .b false),
  (.len (.x 3), .x 6),
  (.bin .gtr (.x 6) (.i .i64 (.ofNat 200)), .b false),
  (.bin .eql (.x 0) (.i .u8 (.ofNat 0)), .b false),
  (.conv 3 (.x 0), .x 7),
  (.conv 3 (.x 1), .x 8),
  (.mm true (.x 5) (.i .i64 (.ofNat 0)), .x 9),
  (.un .neg (.x 9), .x 10),
  (.bin .and (.x 10) (.i .i64 (.ofNat 7)), .i .i64 (.ofNat 3)),
  (.bin .geq (.x 7) (.i .i64 (.ofNat 1)), .b true),
  (.bin .leq (.x 7) (.i .i64 (.ofNat 255)), .b true),
  (.bin .geq (.x 8) (.i .i64 (.ofNat 0)), .b true),
  (.bin .leq (.x 8) (.i .i64 (.ofNat 65535)), .b true),
  (.bin .leq (.x 5) (.i .i64 (.ofNat 65535)), .b true),
  (.conv 5 (.x 7), .x 11),
  (.bin .shr (.x 8) (.i .u64 (.ofNat 8)), .x 12),
  (.conv 5 (.x 12), .x 13),
  (.conv 5 (.x 8), .x 14),
  (.bin .shr (.x 5) (.i .u64 (.ofNat 8)), .x 15),
  (.conv 5 (.x 15), .x 16),
  (.conv 5 (.x 5), .x 17),
  (.bytes [.i .u8 (.ofNat 1), .x 11, .x 13, .x 14, .x 16, .x 17, .i .u8 (.ofNat 3), .i .u8 (.ofNat 0)], .x 18),
  (.bin .add (.x 18) (.x 2), .x 19),
  (.bin .add (.x 19) (.s 3 0), .x 20),
  (.len (.x 20), .x 21),
  (.bin .lss (.x 21) (.i .i64 (.ofNat 8)), .b false),
  (.bin .rem (.x 21) (.i .i64 (.ofNat 8)), .x 22),
  (.bin .neq (.x 22) (.i .i64 (.ofNat 0)), .b false),
  (.bin .add (.x 20) (.x 3), .x 23),
  (.bin .neq (.x 23) (.s 0 0), .b true),
  (.idx (.x 23) (.i .i64 (.ofNat 0)), .i .u8 (.ofNat 1)),
  (.len (.x 23), .x 24),
  (.bin .lss (.x 24) (.i .i64 (.ofNat 8)), .b false),
  (.idx (.x 23) (.i .i64 (.ofNat 4)), .x 25),
  (.conv 3 (.x 25), .x 26),
  (.bin .shl (.x 26) (.i .u64 (.ofNat 8)), .x 27),
  (.bin .add (.i .i64 (.ofNat 8)) (.x 27), .x 28),
  (.idx (.x 23) (.i .i64 (.ofNat 5)), .x 29),
  (.conv 3 (.x 29), .x 30),
  (.bin .add (.x 28) (.x 30), .x 31),
  (.idx (.x 23) (.i .i64 (.ofNat 6)), .i .u8 (.ofNat 3)),
  (.bin .add (.x 31) (.i .i64 (.ofNat 3)), .x 32),
  (.bin .lss (.x 24) (.x 32), .b false),
  (.idx (.x 23) (.i .i64 (.ofNat 1)), .x 33),
  (.bin .eql (.x 33) (.i .u8 (.ofNat 0)), .b false),
  (.conv 3 (.x 33), .x 34),
  (.idx (.x 23) (.i .i64 (.ofNat 2)), .x 35),
  (.conv 3 (.x 35), .x 36),
  (.bin .shl (.x 36) (.i .u64 (.ofNat 8)), .x 37),
  (.idx (.x 23) (.i .i64 (.ofNat 3)), .x 38),
  (.conv 3 (.x 38), .x 39),
  (.bin .or (.x 37) (.x 39), .x 40),
  (.bin .sub (.x 32) (.i .i64 (.ofNat 3)), .x 41),
  (.sub (.x 23) (some (.i .i64 (.ofNat 8))) (some (.x 41)), .x 42),
  (.sub (.x 23) (some (.x 32)) none, .x 43),
  (.conv 3 (.x 4), .x 44),
  (.bin .rem (.x 44) (.x 21), .x 45),
  (.sub (.x 20) none (some (.x 45)), .x 46),
  (.bin .neq (.x 46) (.s 0 0), .b false),
  (.len (.x 46), .x 47),
  (.bin .lss (.x 47) (.i .i64 (.ofNat 8)), .b true),
  (.eq 3 (.x 34) (.x 7), .b true),
  (.eq 3 (.x 40) (.x 8), .b true),
  (.eq 9 (.x 42) (.x 2), .b true),
  (.bin .eql (.x 43) (.x 3), .b true)]
noncomputable def tab15 : Tab := { tabk with hyp := hy15 }
theorem run15 : okB (call tab15 9000 3 [.x 0, .x 1, .x 2, .b true, .x 3, .x 4] ⟨H0 , 1, 0, 0⟩) = true := by kernel_rfl
def nu15 (t : Int) (id : Int) (c : List UInt8) (more : List UInt8) (cut : Int) : List Value := [.int .u8 (t),
  .int .u16 (id),
  St' c,
  St' more,
  .int .u16 (cut),
  .int .i64 ((c.length : Int)),
  .int .i64 ((more.length : Int)),
  .int .i64 (t),
  .int .i64 (id),
  .int .i64 (max ((c.length : Int)) 0),
  .int .i64 (-(max ((c.length : Int)) 0)),
  .int .u8 (t),
  .int .i64 (id / 256),
  .int .u8 (id / 256),
  .int .u8 (id % 256),
  .int .i64 (((c.length : Int)) / 256),
  .int .u8 ((((c.length : Int)) / 256) % 256),
  .int .u8 (((c.length : Int)) % 256),
  St' ([u8 1, u8 (t), u8 (id / 256), u8 (id % 256), u8 ((((c.length : Int)) / 256) % 256), u8 (((c.length : Int)) % 256), u8 3, u8 0]),
  St' (([u8 1, u8 (t), u8 (id / 256), u8 (id % 256), u8 ((((c.length : Int)) / 256) % 256), u8 (((c.length : Int)) % 256), u8 3, u8 0] ++ c)),
  St' (([u8 1, u8 (t), u8 (id / 256), u8 (id % 256), u8 ((((c.length : Int)) / 256) % 256), u8 (((c.length : Int)) % 256), u8 3, u8 0] ++ (c ++ [u8 0, u8 0, u8 0]))),
  .int .i64 ((c.length : Int) + 11),
  .int .i64 (((c.length : Int) + 11) % 8),
  St' (([u8 1, u8 (t), u8 (id / 256), u8 (id % 256), u8 ((((c.length : Int)) / 256) % 256), u8 (((c.length : Int)) % 256), u8 3, u8 0] ++ (c ++ ([u8 0, u8 0, u8 0] ++ more)))),
  .int .i64 ((c.length : Int) + (more.length : Int) + 11),
  .int .u8 ((((c.length : Int)) / 256) % 256),
  .int .i64 ((((c.length : Int)) / 256) % 256),
  .int .i64 (((((c.length : Int)) / 256) % 256) * 256),
  .int .i64 (8 + (((((c.length : Int)) / 256) % 256) * 256)),
  .int .u8 (((c.length : Int)) % 256),
  .int .i64 (((c.length : Int)) % 256),
  .int .i64 ((8 + (((((c.length : Int)) / 256) % 256) * 256)) + (((c.length : Int)) % 256)),
  .int .i64 (((8 + (((((c.length : Int)) / 256) % 256) * 256)) + (((c.length : Int)) % 256)) + 3),
  .int .u8 (t),
  .int .i64 (t),
  .int .u8 (id / 256),
  .int .i64 (id / 256),
  .int .i64 ((id / 256) * 256),
  .int .u8 (id % 256),
  .int .i64 (id % 256),
  .int .i64 (((id / 256) * 256) + (id % 256)),
  .int .i64 ((((8 + (((((c.length : Int)) / 256) % 256) * 256)) + (((c.length : Int)) % 256)) + 3) - 3),
  St' c,
  St' more,
  .int .i64 (cut),
  .int .i64 (cut % ((c.length : Int) + 11)),
  St' ((List.take (cut % ((c.length : Int) + 11)).toNat (([u8 1, u8 (t), u8 (id / 256), u8 (id % 256), u8 ((((c.length : Int)) / 256) % 256), u8 (((c.length : Int)) % 256), u8 3, u8 0] ++ (c ++ [u8 0, u8 0, u8 0]))))),
  .int .i64 ((cut % ((c.length : Int) + 11)))]
theorem one15 (t : Int) (id : Int) (c : List UInt8) (more : List UInt8) (cut : Int) : ∀ j, (nuL (nu15 t id c more cut) j).oneCell' = true := nuL_one (l := nu15 t id c more cut) rfl
set_option maxHeartbeats 2000000 in
theorem hyOk15 (t : Int) (id : Int) (c : List UInt8) (more : List UInt8) (cut : Int) (b0 : 0 ≤ t) (b1 : t ≤ 255) (b2 : 0 ≤ id) (b3 : id ≤ 65535) (b4 : c.length ≤ 9223372036854775807) (b5 : more.length ≤ 9223372036854775807) (b6 : 0 ≤ cut) (b7 : cut ≤ 65535) (h0 : ¬ (2000 < (c.length : Int))) (h1 : ¬ (200 < (more.length : Int))) (h2 : ¬ (t = 0)) (h3 : ¬ ((-(max ((c.length : Int)) 0)) % 8 = 0)) (h4 : ¬ ((-(max ((c.length : Int)) 0)) % 8 = 1)) (h5 : ¬ ((-(max ((c.length : Int)) 0)) % 8 = 2)) (h6 : (-(max ((c.length : Int)) 0)) % 8 = 3) (h18 : (cut % ((c.length : Int) + 11)) = 0) : ∀ k r, (k, r) ∈ hy15 → HOk (cx (nuL (nu15 t id c more cut)) (one15 t id c more cut) 0 laidE laidE_stab) k r := by
  have := Int.emod_nonneg cut (show ((c.length : Int) + 11) ≠ 0 by omega); have := Int.emod_lt_of_pos cut (show 0 < ((c.length : Int) + 11) by omega)
  unfold hy15
  refine hcons (kLenE (isX rfl) (denX rfl) (by first | omega | (simp only [List.length_append, List.length_cons, List.length_nil, List.length_take, List.length_drop, Int.natCast_add] at *; omega))) ?_
  refine hcons (kGt (isX rfl) (isZ (m := 2000) rfl) (decide_eq_false (by omega))) ?_
  refine hcons (kLenE (isX rfl) (denX rfl) (by first | omega | (simp only [List.length_append, List.length_cons, List.length_nil, List.length_take, List.length_drop, Int.natCast_add] at *; omega))) ?_
  refine hcons (kGt (isX rfl) (isZ (m := 200) rfl) (decide_eq_false (by omega))) ?_
  refine hcons (kEqI (isX rfl) (isZ (m := 0) rfl) (decide_eq_false (by omega))) ?_
  refine hcons (kConvF (isX rfl) tu3 (denX rfl) (fI64 (by omega) (by omega))) ?_
  refine hcons (kConvF (isX rfl) tu3 (denX rfl) (fI64 (by omega) (by omega))) ?_
  refine hcons (kMax (isX rfl) (isZ (m := 0) rfl) (denX rfl) rfl) ?_
  refine hcons (kNeg (isX rfl) (denX rfl) rfl (fI64 (by omega) (by omega))) ?_
  refine hcons (kAndG 3 8 rfl (by decide) (isX rfl) (isZ (m := 7) rfl) (denZ (m := 3) rfl) (fI64 (by omega) (by omega)) rfl (by omega) (fI64 (by omega) (by omega))) ?_
  refine hcons (kGe (isX rfl) (isZ (m := 1) rfl) (decide_eq_true (by omega))) ?_
  refine hcons (kLe (isX rfl) (isZ (m := 255) rfl) (decide_eq_true (by omega))) ?_
  refine hcons (kGe (isX rfl) (isZ (m := 0) rfl) (decide_eq_true (by omega))) ?_
  refine hcons (kLe (isX rfl) (isZ (m := 65535) rfl) (decide_eq_true (by omega))) ?_
  refine hcons (kLe (isX rfl) (isZ (m := 65535) rfl) (decide_eq_true (by omega))) ?_
  refine hcons (kConvF (isX rfl) tu5 (denX rfl) (fU8 (by omega) (by omega))) ?_
  refine hcons (kShrM 8 256 rfl (isX rfl) (isZ (m := 8) rfl) (denX rfl) rfl (by decide) (by omega) rfl) ?_
  refine hcons (kConvF (isX rfl) tu5 (denX rfl) (fU8 (by omega) (by omega))) ?_
  refine hcons (kConv8 (isX rfl) tu5 (denX rfl) rfl) ?_
  refine hcons (kShrM 8 256 rfl (isX rfl) (isZ (m := 8) rfl) (denX rfl) rfl (by decide) (by omega) rfl) ?_
  refine hcons (kConv8 (isX rfl) tu5 (denX rfl) rfl) ?_
  refine hcons (kConv8 (isX rfl) tu5 (denX rfl) rfl) ?_
  refine hcons (kBytesB (bs := [u8 1, u8 (t), u8 (id / 256), u8 (id % 256), u8 ((((c.length : Int)) / 256) % 256), u8 (((c.length : Int)) % 256), u8 3, u8 0]) (.cons (isB8 (isZ (m := 1) rfl) (by omega) (by omega)) (.cons (isB8 (isX rfl) (by omega) (by omega)) (.cons (isB8 (isX rfl) (by omega) (by omega)) (.cons (isB8 (isX rfl) (by omega) (by omega)) (.cons (isB8 (isX rfl) (by omega) (by omega)) (.cons (isB8 (isX rfl) (by omega) (by omega)) (.cons (isB8 (isZ (m := 3) rfl) (by omega) (by omega)) (.cons (isB8 (isZ (m := 0) rfl) (by omega) (by omega)) .nil)))))))) (denX rfl)) ?_
  refine hcons (kCat (isX rfl) (isX rfl) (denX rfl) (by first | rfl | (simp only [List.append_assoc, List.cons_append, List.nil_append, List.append_nil]; done)) (by first | omega | (simp only [List.length_append, List.length_cons, List.length_nil, List.length_take, List.length_drop, Int.natCast_add] at *; omega))) ?_
  refine hcons (kCat (isX rfl) (isSx (l := [u8 0, u8 0, u8 0]) 3 0 rfl) (denX rfl) (by first | rfl | (simp only [List.append_assoc, List.cons_append, List.nil_append, List.append_nil]; done)) (by first | omega | (simp only [List.length_append, List.length_cons, List.length_nil, List.length_take, List.length_drop, Int.natCast_add] at *; omega))) ?_
  refine hcons (kLenE (isX rfl) (denX rfl) (by first | omega | (simp only [List.length_append, List.length_cons, List.length_nil, List.length_take, List.length_drop, Int.natCast_add] at *; omega))) ?_
  refine hcons (kLt (isX rfl) (isZ (m := 8) rfl) (decide_eq_false (by omega))) ?_
  refine hcons (kRem (isX rfl) (isZ (m := 8) rfl) (denX rfl) (by omega) (by omega) rfl) ?_
  refine hcons (kNeI (isX rfl) (isZ (m := 0) rfl) (neF (by omega))) ?_
  refine hcons (kCat (isX rfl) (isX rfl) (denX rfl) (by first | rfl | (simp only [List.append_assoc, List.cons_append, List.nil_append, List.append_nil]; done)) (by first | omega | (simp only [List.length_append, List.length_cons, List.length_nil, List.length_take, List.length_drop, Int.natCast_add] at *; omega))) ?_
  refine hcons (kNeS (isX rfl) (isSx (l := ([] : List UInt8)) 0 0 rfl) (bnT (by first | exact nilT (by first | omega | (simp only [List.length_append, List.length_cons, List.length_nil, List.length_take, List.length_drop, Int.natCast_add] at *; omega)) | exact nilF (by first | omega | (simp only [List.length_append, List.length_cons, List.length_nil, List.length_take, List.length_drop, Int.natCast_add] at *; omega)) | exact nilT' (by first | omega | (simp only [List.length_append, List.length_cons, List.length_nil, List.length_take, List.length_drop, Int.natCast_add] at *; omega)) | exact nilF' (by first | omega | (simp only [List.length_append, List.length_cons, List.length_nil, List.length_take, List.length_drop, Int.natCast_add] at *; omega))))) ?_
  refine hcons (kIdxE (i := 0) (isX rfl) (isZ (m := 0) rfl) (denZ (m := 1) rfl) rfl (by first | omega | (simp only [List.length_append, List.length_cons, List.length_nil, List.length_take, List.length_drop, Int.natCast_add] at *; omega)) (bt_at rfl (by omega) (by omega))) ?_
  refine hcons (kLenE (isX rfl) (denX rfl) (by first | omega | (simp only [List.length_append, List.length_cons, List.length_nil, List.length_take, List.length_drop, Int.natCast_add] at *; omega))) ?_
  refine hcons (kLt (isX rfl) (isZ (m := 8) rfl) (decide_eq_false (by omega))) ?_
  refine hcons (kIdxE (i := 4) (isX rfl) (isZ (m := 4) rfl) (denX rfl) rfl (by first | omega | (simp only [List.length_append, List.length_cons, List.length_nil, List.length_take, List.length_drop, Int.natCast_add] at *; omega)) (bt_at rfl (by omega) (by omega))) ?_
  refine hcons (kConvF (isX rfl) tu3 (denX rfl) (fI64 (by omega) (by omega))) ?_
  refine hcons (kShlM 8 256 rfl (isX rfl) (isZ (m := 8) rfl) (denX rfl) rfl (by decide) rfl (fI64 (by omega) (by omega))) ?_
  refine hcons (kAdd (isZ (m := 8) rfl) (isX rfl) (denX rfl) rfl (fI64 (by omega) (by omega))) ?_
  refine hcons (kIdxE (i := 5) (isX rfl) (isZ (m := 5) rfl) (denX rfl) rfl (by first | omega | (simp only [List.length_append, List.length_cons, List.length_nil, List.length_take, List.length_drop, Int.natCast_add] at *; omega)) (bt_at rfl (by omega) (by omega))) ?_
  refine hcons (kConvF (isX rfl) tu3 (denX rfl) (fI64 (by omega) (by omega))) ?_
  refine hcons (kAdd (isX rfl) (isX rfl) (denX rfl) rfl (fI64 (by omega) (by omega))) ?_
  refine hcons (kIdxE (i := 6) (isX rfl) (isZ (m := 6) rfl) (denZ (m := 3) rfl) rfl (by first | omega | (simp only [List.length_append, List.length_cons, List.length_nil, List.length_take, List.length_drop, Int.natCast_add] at *; omega)) (bt_at rfl (by omega) (by omega))) ?_
  refine hcons (kAdd (isX rfl) (isZ (m := 3) rfl) (denX rfl) rfl (fI64 (by omega) (by omega))) ?_
  refine hcons (kLt (isX rfl) (isX rfl) (decide_eq_false (by omega))) ?_
  refine hcons (kIdxE (i := 1) (isX rfl) (isZ (m := 1) rfl) (denX rfl) rfl (by first | omega | (simp only [List.length_append, List.length_cons, List.length_nil, List.length_take, List.length_drop, Int.natCast_add] at *; omega)) (bt_at rfl (by omega) (by omega))) ?_
  refine hcons (kEqI (isX rfl) (isZ (m := 0) rfl) (decide_eq_false (by omega))) ?_
  refine hcons (kConvF (isX rfl) tu3 (denX rfl) (fI64 (by omega) (by omega))) ?_
  refine hcons (kIdxE (i := 2) (isX rfl) (isZ (m := 2) rfl) (denX rfl) rfl (by first | omega | (simp only [List.length_append, List.length_cons, List.length_nil, List.length_take, List.length_drop, Int.natCast_add] at *; omega)) (bt_at rfl (by omega) (by omega))) ?_
  refine hcons (kConvF (isX rfl) tu3 (denX rfl) (fI64 (by omega) (by omega))) ?_
  refine hcons (kShlM 8 256 rfl (isX rfl) (isZ (m := 8) rfl) (denX rfl) rfl (by decide) rfl (fI64 (by omega) (by omega))) ?_
  refine hcons (kIdxE (i := 3) (isX rfl) (isZ (m := 3) rfl) (denX rfl) rfl (by first | omega | (simp only [List.length_append, List.length_cons, List.length_nil, List.length_take, List.length_drop, Int.natCast_add] at *; omega)) (bt_at rfl (by omega) (by omega))) ?_
  refine hcons (kConvF (isX rfl) tu3 (denX rfl) (fI64 (by omega) (by omega))) ?_
  refine hcons (kOrM 8 256 rfl (isX rfl) (isX rfl) (denX rfl) (by omega) (by omega) (fI64 (by omega) (by omega)) (fI64 (by omega) (by omega)) (by omega) (by omega) rfl (fI64 (by omega) (by omega))) ?_
  refine hcons (kSub (isX rfl) (isZ (m := 3) rfl) (denX rfl) rfl (fI64 (by omega) (by omega))) ?_
  refine hcons (kCut (isX rfl) (.inr ⟨_, _, rfl, (isZ (m := 8) rfl)⟩) (.inr ⟨_, _, rfl, (isX rfl)⟩) (p := [u8 1, u8 (t), u8 (id / 256), u8 (id % 256), u8 ((((c.length : Int)) / 256) % 256), u8 (((c.length : Int)) % 256), u8 3, u8 0]) (m := c) (q := ([u8 0, u8 0, u8 0] ++ more)) (by first | rfl | (simp only [List.append_assoc, List.cons_append, List.nil_append, List.append_nil]; done)) (by first | omega | (simp only [List.length_append, List.length_cons, List.length_nil, List.length_take, List.length_drop, Int.natCast_add] at *; omega)) (by first | omega | (simp only [List.length_append, List.length_cons, List.length_nil, List.length_take, List.length_drop, Int.natCast_add] at *; omega)) (denX rfl)) ?_
  refine hcons (kCut (isX rfl) (.inr ⟨_, _, rfl, (isX rfl)⟩) (.inl ⟨rfl, rfl⟩) (p := ([u8 1, u8 (t), u8 (id / 256), u8 (id % 256), u8 ((((c.length : Int)) / 256) % 256), u8 (((c.length : Int)) % 256), u8 3, u8 0] ++ (c ++ [u8 0, u8 0, u8 0]))) (m := more) (q := ([] : List UInt8)) (by first | rfl | (simp only [List.append_assoc, List.cons_append, List.nil_append, List.append_nil]; done)) (by first | omega | (simp only [List.length_append, List.length_cons, List.length_nil, List.length_take, List.length_drop, Int.natCast_add] at *; omega)) (by first | omega | (simp only [List.length_append, List.length_cons, List.length_nil, List.length_take, List.length_drop, Int.natCast_add] at *; omega)) (denX rfl)) ?_
  refine hcons (kConvF (isX rfl) tu3 (denX rfl) (fI64 (by omega) (by omega))) ?_
  refine hcons (kRem (isX rfl) (isX rfl) (denX rfl) (by omega) (by omega) rfl) ?_
  refine hcons (kTake (isX rfl) (isX rfl) (by first | omega | (simp only [List.length_append, List.length_cons, List.length_nil, List.length_take, List.length_drop, Int.natCast_add] at *; omega)) (by first | omega | (simp only [List.length_append, List.length_cons, List.length_nil, List.length_take, List.length_drop, Int.natCast_add] at *; omega)) (denX rfl)) ?_
  refine hcons (kNeS (isX rfl) (isSx (l := ([] : List UInt8)) 0 0 rfl) (bnF (by first | exact nilT (by first | omega | (simp only [List.length_append, List.length_cons, List.length_nil, List.length_take, List.length_drop, Int.natCast_add] at *; omega)) | exact nilF (by first | omega | (simp only [List.length_append, List.length_cons, List.length_nil, List.length_take, List.length_drop, Int.natCast_add] at *; omega)) | exact nilT' (by first | omega | (simp only [List.length_append, List.length_cons, List.length_nil, List.length_take, List.length_drop, Int.natCast_add] at *; omega)) | exact nilF' (by first | omega | (simp only [List.length_append, List.length_cons, List.length_nil, List.length_take, List.length_drop, Int.natCast_add] at *; omega))))) ?_
  refine hcons (kLenE (isX rfl) (denX rfl) (by first | omega | (simp only [List.length_append, List.length_cons, List.length_nil, List.length_take, List.length_drop, Int.natCast_add] at *; omega))) ?_
  refine hcons (kLt (isX rfl) (isZ (m := 8) rfl) (decide_eq_true (by omega))) ?_
  refine hcons (kEqT (isX rfl) (isX rfl) tu3 (decide_eq_true (by omega))) ?_
  refine hcons (kEqT (isX rfl) (isX rfl) tu3 (decide_eq_true (by omega))) ?_
  refine hcons (kEqTS (isX rfl) (isX rfl) tu9 (decide_eq_true rfl)) ?_
  refine hcons (kEqS (isX rfl) (isX rfl) (decide_eq_true rfl)) ?_
  exact hnil
theorem path15 (t : Int) (id : Int) (c : List UInt8) (more : List UInt8) (cut : Int) (b0 : 0 ≤ t) (b1 : t ≤ 255) (b2 : 0 ≤ id) (b3 : id ≤ 65535) (b4 : c.length ≤ 9223372036854775807) (b5 : more.length ≤ 9223372036854775807) (b6 : 0 ≤ cut) (b7 : cut ≤ 65535) (h0 : ¬ (2000 < (c.length : Int))) (h1 : ¬ (200 < (more.length : Int))) (h2 : ¬ (t = 0)) (h3 : ¬ ((-(max ((c.length : Int)) 0)) % 8 = 0)) (h4 : ¬ ((-(max ((c.length : Int)) 0)) % 8 = 1)) (h5 : ¬ ((-(max ((c.length : Int)) 0)) % 8 = 2)) (h6 : (-(max ((c.length : Int)) 0)) % 8 = 3) (h18 : (cut % ((c.length : Int) + 11)) = 0) (w : World) (hl : laidE w) : Calls Try.prog 3 #[.int .u8 t, .int .u16 id, St' c, .bool true, St' more, .int .u16 cut] w fun e w' => e = .returned (.bool true) ∧ Go.AX.Below w.heap.size w w' := by
  obtain ⟨fi, hfi, hb⟩ : ∃ fi, tabk.fn.get 3 = some fi ∧ fi.body.isSome = true := ⟨_, rfl, by kernel_rfl⟩
  exact runP (tb := tab15) ((tabkOk (nuL (nu15 t id c more cut)) (one15 t id c more cut)).hyps (hyOk15 t id c more cut b0 b1 b2 b3 b4 b5 b6 b7 h0 h1 h2 h3 h4 h5 h6 h18)) rfl hfi hb (run15 ) (args := [.int .u8 t, .int .u16 id, St' c, .bool true, St' more, .int .u16 cut]) (by simp only [RelL, Rel]; exact ⟨_, _, rfl, rfl, ⟨_, _, rfl, rfl, ⟨_, _, rfl, rfl, ⟨_, _, rfl, rfl, ⟨_, _, rfl, rfl, ⟨_, _, rfl, rfl, rfl⟩⟩⟩⟩⟩⟩) w hl
def hy16 : List (HK × AV) := [(.len (.x 2), .x 5),
  (.bin .gtr (.x 5) (.i .i64 (.ofNat 2000)), .b false),
  (.len (.x 3), .x 6),
  (.bin .gtr (.x 6) (.i .i64 (.ofNat 200)), .b false),
  (.bin .eql (.x 0) (.i .u8 (.ofNat 0)), .b false),
  (.conv 3 (.x 0), .x 7),
  (.conv 3 (.x 1), .x 8),
  (.mm true (.x 5) (.i .i64 (.ofNat 0)), .x 9),
  (.un .neg (.x 9), .x 10),
  (.bin .and (.x 10) (.i .i64 (.ofNat 7)), .i .i64 (.ofNat 3)),
  (.bin .geq (.x 7) (.i .i64 (.ofNat 1)), .b true),
  (.bin .leq (.x 7) (.i .i64 (.ofNat 255)), .b true),
  (.bin .geq (.x 8) (.i .i64 (.ofNat 0)), .b true),
  (.bin .leq (.x 8) (.i .i64 (.ofNat 65535)), .b true),
  (.bin .leq (.x 5) (.i .i64 (.ofNat 65535)), .b true),
  (.conv 5 (.x 7), .x 11),
  (.bin .shr (.x 8) (.i .u64 (.ofNat 8)), .x 12),
  (.conv 5 (.x 12), .x 13),
  (.conv 5 (.x 8), .x 14),
  (.bin .shr (.x 5) (.i .u64 (.ofNat 8)), .x 15),
  (.conv 5 (.x 15), .x 16),
  (.conv 5 (.x 5), .x 17),
  (.bytes [.i .u8 (.ofNat 1), .x 11, .x 13, .x 14, .x 16, .x 17, .i .u8 (.ofNat 3), .i .u8 (.ofNat 0)], .x 18),
  (.bin .add (.x 18) (.x 2), .x 19),
  (.bin .add (.x 19) (.s 3 0), .x 20),
  (.len (.x 20), .x 21),
  (.bin .lss (.x 21) (.i .i64 (.ofNat 8)), .b false),
  (.bin .rem (.x 21) (.i .i64 (.ofNat 8)), .x 22),
  (.bin .neq (.x 22) (.i .i64 (.ofNat 0)), .b false),
  (.bin .add (.x 20) (.x 3), .x 23),
  (.bin .neq (.x 23) (.s 0 0), .b true),
  (.idx (.x 23) (.i .i64 (.ofNat 0)), .i .u8 (.ofNat 1)),
  (.len (.x 23), .x 24),
  (.bin .lss (.x 24) (.i .i64 (.ofNat 8)), .b false),
  (.idx (.x 23) (.i .i64 (.ofNat 4)), .x 25),
  (.conv 3 (.x 25), .x 26),
  (.bin .shl (.x 26) (.i .u64 (.ofNat 8)), .x 27),
  (.bin .add (.i .i64 (.ofNat 8)) (.x 27), .x 28),
  (.idx (.x 23) (.i .i64 (.ofNat 5)), .x 29),
  (.conv 3 (.x 29), .x 30),
  (.bin .add (.x 28) (.x 30), .x 31),
  (.idx (.x 23) (.i .i64 (.ofNat 6)), .i .u8 (.ofNat 3)),
  (.bin .add (.x 31) (.i .i64 (.ofNat 3)), .x 32),
  (.bin .lss (.x 24) (.x 32), .b false),
  (.idx (.x 23) (.i .i64 (.ofNat 1)), .x 33),
  (.bin .eql (.x 33) (.i .u8 (.ofNat 0)), .b false),
  (.conv 3 (.x 33), .x 34),
  (.idx (.x 23) (.i .i64 (.ofNat 2)), .x 35),
  (.conv 3 (.x 35), .x 36),
  (.bin .shl (.x 36) (.i .u64 (.ofNat 8)), .x 37),
  (.idx (.x 23) (.i .i64 (.ofNat 3)), .x 38),
  (.conv 3 (.x 38), .x 39),
  (.bin .or (.x 37) (.x 39), .x 40),
  (.bin .sub (.x 32) (.i .i64 (.ofNat 3)), .x 41),
  (.sub (.x 23) (some (.i .i64 (.ofNat 8))) (some (.x 41)), .x 42),
  (.sub (.x 23) (some (.x 32)) none, .x 43),
  (.conv 3 (.x 4), .x 44),
  (.bin .rem (.x 44) (.x 21), .x 45),
  (.sub (.x 20) none (some (.x 45)), .x 46),
  (.bin .neq (.x 46) (.s 0 0), .b true),
  (.idx (.x 46) (.i .i64 (.ofNat 0)), .i .u8 (.ofNat 1)),
  (.len (.x 46), .x 47),
  (.bin .lss (.x 47) (.i .i64 (.ofNat 8)), .b true),
  (.eq 3 (.x 34) (.x 7), .b true),
  (.eq 3 (.x 40) (.x 8), .b true),
  (.eq 9 (.x 42) (.x 2), .b true),
  (.bin .eql (.x 43) (.x 3), .b true)]
noncomputable def tab16 : Tab := { tabk with hyp := hy16 }
theorem run16 : okB (call tab16 9000 3 [.x 0, .x 1, .x 2, .b true, .x 3, .x 4] ⟨H0 , 1, 0, 0⟩) = true := by kernel_rfl
def nu16 (t : Int) (id : Int) (c : List UInt8) (more : List UInt8) (cut : Int) : List Value := [.int .u8 (t),
  .int .u16 (id),
  St' c,
  St' more,
  .int .u16 (cut),
  .int .i64 ((c.length : Int)),
  .int .i64 ((more.length : Int)),
  .int .i64 (t),
  .int .i64 (id),
  .int .i64 (max ((c.length : Int)) 0),
  .int .i64 (-(max ((c.length : Int)) 0)),
  .int .u8 (t),
  .int .i64 (id / 256),
  .int .u8 (id / 256),
  .int .u8 (id % 256),
  .int .i64 (((c.length : Int)) / 256),
  .int .u8 ((((c.length : Int)) / 256) % 256),
  .int .u8 (((c.length : Int)) % 256),
  St' ([u8 1, u8 (t), u8 (id / 256), u8 (id % 256), u8 ((((c.length : Int)) / 256) % 256), u8 (((c.length : Int)) % 256), u8 3, u8 0]),
  St' (([u8 1, u8 (t), u8 (id / 256), u8 (id % 256), u8 ((((c.length : Int)) / 256) % 256), u8 (((c.length : Int)) % 256), u8 3, u8 0] ++ c)),
  St' (([u8 1, u8 (t), u8 (id / 256), u8 (id % 256), u8 ((((c.length : Int)) / 256) % 256), u8 (((c.length : Int)) % 256), u8 3, u8 0] ++ (c ++ [u8 0, u8 0, u8 0]))),
  .int .i64 ((c.length : Int) + 11),
  .int .i64 (((c.length : Int) + 11) % 8),
  St' (([u8 1, u8 (t), u8 (id / 256), u8 (id % 256), u8 ((((c.length : Int)) / 256) % 256), u8 (((c.length : Int)) % 256), u8 3, u8 0] ++ (c ++ ([u8 0, u8 0, u8 0] ++ more)))),
  .int .i64 ((c.length : Int) + (more.length : Int) + 11),
  .int .u8 ((((c.length : Int)) / 256) % 256),
  .int .i64 ((((c.length : Int)) / 256) % 256),
  .int .i64 (((((c.length : Int)) / 256) % 256) * 256),
  .int .i64 (8 + (((((c.length : Int)) / 256) % 256) * 256)),
  .int .u8 (((c.length : Int)) % 256),
  .int .i64 (((c.length : Int)) % 256),
  .int .i64 ((8 + (((((c.length : Int)) / 256) % 256) * 256)) + (((c.length : Int)) % 256)),
  .int .i64 (((8 + (((((c.length : Int)) / 256) % 256) * 256)) + (((c.length : Int)) % 256)) + 3),
  .int .u8 (t),
  .int .i64 (t),
  .int .u8 (id / 256),
  .int .i64 (id / 256),
  .int .i64 ((id / 256) * 256),
  .int .u8 (id % 256),
  .int .i64 (id % 256),
  .int .i64 (((id / 256) * 256) + (id % 256)),
  .int .i64 ((((8 + (((((c.length : Int)) / 256) % 256) * 256)) + (((c.length : Int)) % 256)) + 3) - 3),
  St' c,
  St' more,
  .int .i64 (cut),
  .int .i64 (cut % ((c.length : Int) + 11)),
  St' ((List.take (cut % ((c.length : Int) + 11)).toNat (([u8 1, u8 (t), u8 (id / 256), u8 (id % 256), u8 ((((c.length : Int)) / 256) % 256), u8 (((c.length : Int)) % 256), u8 3, u8 0] ++ (c ++ [u8 0, u8 0, u8 0]))))),
  .int .i64 ((cut % ((c.length : Int) + 11)))]
theorem one16 (t : Int) (id : Int) (c : List UInt8) (more : List UInt8) (cut : Int) : ∀ j, (nuL (nu16 t id c more cut) j).oneCell' = true := nuL_one (l := nu16 t id c more cut) rfl
set_option maxHeartbeats 2000000 in
theorem hyOk16 (t : Int) (id : Int) (c : List UInt8) (more : List UInt8) (cut : Int) (b0 : 0 ≤ t) (b1 : t ≤ 255) (b2 : 0 ≤ id) (b3 : id ≤ 65535) (b4 : c.length ≤ 9223372036854775807) (b5 : more.length ≤ 9223372036854775807) (b6 : 0 ≤ cut) (b7 : cut ≤ 65535) (h0 : ¬ (2000 < (c.length : Int))) (h1 : ¬ (200 < (more.length : Int))) (h2 : ¬ (t = 0)) (h3 : ¬ ((-(max ((c.length : Int)) 0)) % 8 = 0)) (h4 : ¬ ((-(max ((c.length : Int)) 0)) % 8 = 1)) (h5 : ¬ ((-(max ((c.length : Int)) 0)) % 8 = 2)) (h6 : (-(max ((c.length : Int)) 0)) % 8 = 3) (h18 : ¬ ((cut % ((c.length : Int) + 11)) = 0)) (h19 : (cut % ((c.length : Int) + 11)) < 8) : ∀ k r, (k, r) ∈ hy16 → HOk (cx (nuL (nu16 t id c more cut)) (one16 t id c more cut) 0 laidE laidE_stab) k r := by
  have := Int.emod_nonneg cut (show ((c.length : Int) + 11) ≠ 0 by omega); have := Int.emod_lt_of_pos cut (show 0 < ((c.length : Int) + 11) by omega)
  unfold hy16
  refine hcons (kLenE (isX rfl) (denX rfl) (by first | omega | (simp only [List.length_append, List.length_cons, List.length_nil, List.length_take, List.length_drop, Int.natCast_add] at *; omega))) ?_
  refine hcons (kGt (isX rfl) (isZ (m := 2000) rfl) (decide_eq_false (by omega))) ?_
  refine hcons (kLenE (isX rfl) (denX rfl) (by first | omega | (simp only [List.length_append, List.length_cons, List.length_nil, List.length_take, List.length_drop, Int.natCast_add] at *; omega))) ?_
  refine hcons (kGt (isX rfl) (isZ (m := 200) rfl) (decide_eq_false (by omega))) ?_
  refine hcons (kEqI (isX rfl) (isZ (m := 0) rfl) (decide_eq_false (by omega))) ?_
  refine hcons (kConvF (isX rfl) tu3 (denX rfl) (fI64 (by omega) (by omega))) ?_
  refine hcons (kConvF (isX rfl) tu3 (denX rfl) (fI64 (by omega) (by omega))) ?_
  refine hcons (kMax (isX rfl) (isZ (m := 0) rfl) (denX rfl) rfl) ?_
  refine hcons (kNeg (isX rfl) (denX rfl) rfl (fI64 (by omega) (by omega))) ?_
  refine hcons (kAndG 3 8 rfl (by decide) (isX rfl) (isZ (m := 7) rfl) (denZ (m := 3) rfl) (fI64 (by omega) (by omega)) rfl (by omega) (fI64 (by omega) (by omega))) ?_
  refine hcons (kGe (isX rfl) (isZ (m := 1) rfl) (decide_eq_true (by omega))) ?_
  refine hcons (kLe (isX rfl) (isZ (m := 255) rfl) (decide_eq_true (by omega))) ?_
  refine hcons (kGe (isX rfl) (isZ (m := 0) rfl) (decide_eq_true (by omega))) ?_
  refine hcons (kLe (isX rfl) (isZ (m := 65535) rfl) (decide_eq_true (by omega))) ?_
  refine hcons (kLe (isX rfl) (isZ (m := 65535) rfl) (decide_eq_true (by omega))) ?_
  refine hcons (kConvF (isX rfl) tu5 (denX rfl) (fU8 (by omega) (by omega))) ?_
  refine hcons (kShrM 8 256 rfl (isX rfl) (isZ (m := 8) rfl) (denX rfl) rfl (by decide) (by omega) rfl) ?_
  refine hcons (kConvF (isX rfl) tu5 (denX rfl) (fU8 (by omega) (by omega))) ?_
  refine hcons (kConv8 (isX rfl) tu5 (denX rfl) rfl) ?_
  refine hcons (kShrM 8 256 rfl (isX rfl) (isZ (m := 8) rfl) (denX rfl) rfl (by decide) (by omega) rfl) ?_
  refine hcons (kConv8 (isX rfl) tu5 (denX rfl) rfl) ?_
  refine hcons (kConv8 (isX rfl) tu5 (denX rfl) rfl) ?_
  refine hcons (kBytesB (bs := [u8 1, u8 (t), u8 (id / 256), u8 (id % 256), u8 ((((c.length : Int)) / 256) % 256), u8 (((c.length : Int)) % 256), u8 3, u8 0]) (.cons (isB8 (isZ (m := 1) rfl) (by omega) (by omega)) (.cons (isB8 (isX rfl) (by omega) (by omega)) (.cons (isB8 (isX rfl) (by omega) (by omega)) (.cons (isB8 (isX rfl) (by omega) (by omega)) (.cons (isB8 (isX rfl) (by omega) (by omega)) (.cons (isB8 (isX rfl) (by omega) (by omega)) (.cons (isB8 (isZ (m := 3) rfl) (by omega) (by omega)) (.cons (isB8 (isZ (m := 0) rfl) (by omega) (by omega)) .nil)))))))) (denX rfl)) ?_
  refine hcons (kCat (isX rfl) (isX rfl) (denX rfl) (by first | rfl | (simp only [List.append_assoc, List.cons_append, List.nil_append, List.append_nil]; done)) (by first | omega | (simp only [List.length_append, List.length_cons, List.length_nil, List.length_take, List.length_drop, Int.natCast_add] at *; omega))) ?_
  refine hcons (kCat (isX rfl) (isSx (l := [u8 0, u8 0, u8 0]) 3 0 rfl) (denX rfl) (by first | rfl | (simp only [List.append_assoc, List.cons_append, List.nil_append, List.append_nil]; done)) (by first | omega | (simp only [List.length_append, List.length_cons, List.length_nil, List.length_take, List.length_drop, Int.natCast_add] at *; omega))) ?_
  refine hcons (kLenE (isX rfl) (denX rfl) (by first | omega | (simp only [List.length_append, List.length_cons, List.length_nil, List.length_take, List.length_drop, Int.natCast_add] at *; omega))) ?_
  refine hcons (kLt (isX rfl) (isZ (m := 8) rfl) (decide_eq_false (by omega))) ?_
  refine hcons (kRem (isX rfl) (isZ (m := 8) rfl) (denX rfl) (by omega) (by omega) rfl) ?_
  refine hcons (kNeI (isX rfl) (isZ (m := 0) rfl) (neF (by omega))) ?_
  refine hcons (kCat (isX rfl) (isX rfl) (denX rfl) (by first | rfl | (simp only [List.append_assoc, List.cons_append, List.nil_append, List.append_nil]; done)) (by first | omega | (simp only [List.length_append, List.length_cons, List.length_nil, List.length_take, List.length_drop, Int.natCast_add] at *; omega))) ?_
  refine hcons (kNeS (isX rfl) (isSx (l := ([] : List UInt8)) 0 0 rfl) (bnT (by first | exact nilT (by first | omega | (simp only [List.length_append, List.length_cons, List.length_nil, List.length_take, List.length_drop, Int.natCast_add] at *; omega)) | exact nilF (by first | omega | (simp only [List.length_append, List.length_cons, List.length_nil, List.length_take, List.length_drop, Int.natCast_add] at *; omega)) | exact nilT' (by first | omega | (simp only [List.length_append, List.length_cons, List.length_nil, List.length_take, List.length_drop, Int.natCast_add] at *; omega)) | exact nilF' (by first | omega | (simp only [List.length_append, List.length_cons, List.length_nil, List.length_take, List.length_drop, Int.natCast_add] at *; omega))))) ?_
  refine hcons (kIdxE (i := 0) (isX rfl) (isZ (m := 0) rfl) (denZ (m := 1) rfl) rfl (by first | omega | (simp only [List.length_append, List.length_cons, List.length_nil, List.length_take, List.length_drop, Int.natCast_add] at *; omega)) (bt_at rfl (by omega) (by omega))) ?_
  refine hcons (kLenE (isX rfl) (denX rfl) (by first | omega | (simp only [List.length_append, List.length_cons, List.length_nil, List.length_take, List.length_drop, Int.natCast_add] at *; omega))) ?_
  refine hcons (kLt (isX rfl) (isZ (m := 8) rfl) (decide_eq_false (by omega))) ?_
  refine hcons (kIdxE (i := 4) (isX rfl) (isZ (m := 4) rfl) (denX rfl) rfl (by first | omega | (simp only [List.length_append, List.length_cons, List.length_nil, List.length_take, List.length_drop, Int.natCast_add] at *; omega)) (bt_at rfl (by omega) (by omega))) ?_
  refine hcons (kConvF (isX rfl) tu3 (denX rfl) (fI64 (by omega) (by omega))) ?_
  refine hcons (kShlM 8 256 rfl (isX rfl) (isZ (m := 8) rfl) (denX rfl) rfl (by decide) rfl (fI64 (by omega) (by omega))) ?_
  refine hcons (kAdd (isZ (m := 8) rfl) (isX rfl) (denX rfl) rfl (fI64 (by omega) (by omega))) ?_
  refine hcons (kIdxE (i := 5) (isX rfl) (isZ (m := 5) rfl) (denX rfl) rfl (by first | omega | (simp only [List.length_append, List.length_cons, List.length_nil, List.length_take, List.length_drop, Int.natCast_add] at *; omega)) (bt_at rfl (by omega) (by omega))) ?_
  refine hcons (kConvF (isX rfl) tu3 (denX rfl) (fI64 (by omega) (by omega))) ?_
  refine hcons (kAdd (isX rfl) (isX rfl) (denX rfl) rfl (fI64 (by omega) (by omega))) ?_
  refine hcons (kIdxE (i := 6) (isX rfl) (isZ (m := 6) rfl) (denZ (m := 3) rfl) rfl (by first | omega | (simp only [List.length_append, List.length_cons, List.length_nil, List.length_take, List.length_drop, Int.natCast_add] at *; omega)) (bt_at rfl (by omega) (by omega))) ?_
  refine hcons (kAdd (isX rfl) (isZ (m := 3) rfl) (denX rfl) rfl (fI64 (by omega) (by omega))) ?_
  refine hcons (kLt (isX rfl) (isX rfl) (decide_eq_false (by omega))) ?_
  refine hcons (kIdxE (i := 1) (isX rfl) (isZ (m := 1) rfl) (denX rfl) rfl (by first | omega | (simp only [List.length_append, List.length_cons, List.length_nil, List.length_take, List.length_drop, Int.natCast_add] at *; omega)) (bt_at rfl (by omega) (by omega))) ?_
  refine hcons (kEqI (isX rfl) (isZ (m := 0) rfl) (decide_eq_false (by omega))) ?_
  refine hcons (kConvF (isX rfl) tu3 (denX rfl) (fI64 (by omega) (by omega))) ?_
  refine hcons (kIdxE (i := 2) (isX rfl) (isZ (m := 2) rfl) (denX rfl) rfl (by first | omega | (simp only [List.length_append, List.length_cons, List.length_nil, List.length_take, List.length_drop, Int.natCast_add] at *; omega)) (bt_at rfl (by omega) (by omega))) ?_
  refine hcons (kConvF (isX rfl) tu3 (denX rfl) (fI64 (by omega) (by omega))) ?_
  refine hcons (kShlM 8 256 rfl (isX rfl) (isZ (m := 8) rfl) (denX rfl) rfl (by decide) rfl (fI64 (by omega) (by omega))) ?_
  refine hcons (kIdxE (i := 3) (isX rfl) (isZ (m := 3) rfl) (denX rfl) rfl (by first | omega | (simp only [List.length_append, List.length_cons, List.length_nil, List.length_take, List.length_drop, Int.natCast_add] at *; omega)) (bt_at rfl (by omega) (by omega))) ?_
  refine hcons (kConvF (isX rfl) tu3 (denX rfl) (fI64 (by omega) (by omega))) ?_
  refine hcons (kOrM 8 256 rfl (isX rfl) (isX rfl) (denX rfl) (by omega) (by omega) (fI64 (by omega) (by omega)) (fI64 (by omega) (by omega)) (by omega) (by omega) rfl (fI64 (by omega) (by omega))) ?_
  refine hcons (kSub (isX rfl) (isZ (m := 3) rfl) (denX rfl) rfl (fI64 (by omega) (by omega))) ?_
  refine hcons (kCut (isX rfl) (.inr ⟨_, _, rfl, (isZ (m := 8) rfl)⟩) (.inr ⟨_, _, rfl, (isX rfl)⟩) (p := [u8 1, u8 (t), u8 (id / 256), u8 (id % 256), u8 ((((c.length : Int)) / 256) % 256), u8 (((c.length : Int)) % 256), u8 3, u8 0]) (m := c) (q := ([u8 0, u8 0, u8 0] ++ more)) (by first | rfl | (simp only [List.append_assoc, List.cons_append, List.nil_append, List.append_nil]; done)) (by first | omega | (simp only [List.length_append, List.length_cons, List.length_nil, List.length_take, List.length_drop, Int.natCast_add] at *; omega)) (by first | omega | (simp only [List.length_append, List.length_cons, List.length_nil, List.length_take, List.length_drop, Int.natCast_add] at *; omega)) (denX rfl)) ?_
  refine hcons (kCut (isX rfl) (.inr ⟨_, _, rfl, (isX rfl)⟩) (.inl ⟨rfl, rfl⟩) (p := ([u8 1, u8 (t), u8 (id / 256), u8 (id % 256), u8 ((((c.length : Int)) / 256) % 256), u8 (((c.length : Int)) % 256), u8 3, u8 0] ++ (c ++ [u8 0, u8 0, u8 0]))) (m := more) (q := ([] : List UInt8)) (by first | rfl | (simp only [List.append_assoc, List.cons_append, List.nil_append, List.append_nil]; done)) (by first | omega | (simp only [List.length_append, List.length_cons, List.length_nil, List.length_take, List.length_drop, Int.natCast_add] at *; omega)) (by first | omega | (simp only [List.length_append, List.length_cons, List.length_nil, List.length_take, List.length_drop, Int.natCast_add] at *; omega)) (denX rfl)) ?_
  refine hcons (kConvF (isX rfl) tu3 (denX rfl) (fI64 (by omega) (by omega))) ?_
  refine hcons (kRem (isX rfl) (isX rfl) (denX rfl) (by omega) (by omega) rfl) ?_
  refine hcons (kTake (isX rfl) (isX rfl) (by first | omega | (simp only [List.length_append, List.length_cons, List.length_nil, List.length_take, List.length_drop, Int.natCast_add] at *; omega)) (by first | omega | (simp only [List.length_append, List.length_cons, List.length_nil, List.length_take, List.length_drop, Int.natCast_add] at *; omega)) (denX rfl)) ?_
  refine hcons (kNeS (isX rfl) (isSx (l := ([] : List UInt8)) 0 0 rfl) (bnT (by first | exact nilT (by first | omega | (simp only [List.length_append, List.length_cons, List.length_nil, List.length_take, List.length_drop, Int.natCast_add] at *; omega)) | exact nilF (by first | omega | (simp only [List.length_append, List.length_cons, List.length_nil, List.length_take, List.length_drop, Int.natCast_add] at *; omega)) | exact nilT' (by first | omega | (simp only [List.length_append, List.length_cons, List.length_nil, List.length_take, List.length_drop, Int.natCast_add] at *; omega)) | exact nilF' (by first | omega | (simp only [List.length_append, List.length_cons, List.length_nil, List.length_take, List.length_drop, Int.natCast_add] at *; omega))))) ?_
  refine hcons (kIdxE (i := 0) (isX rfl) (isZ (m := 0) rfl) (denZ (m := 1) rfl) rfl (by first | omega | (simp only [List.length_append, List.length_cons, List.length_nil, List.length_take, List.length_drop, Int.natCast_add] at *; omega)) ((bt_take (by omega)).trans (bt_at rfl (by omega) (by omega)))) ?_
  refine hcons (kLenE (isX rfl) (denX rfl) (by first | omega | (simp only [List.length_append, List.length_cons, List.length_nil, List.length_take, List.length_drop, Int.natCast_add] at *; omega))) ?_
  refine hcons (kLt (isX rfl) (isZ (m := 8) rfl) (decide_eq_true (by omega))) ?_
  refine hcons (kEqT (isX rfl) (isX rfl) tu3 (decide_eq_true (by omega))) ?_
  refine hcons (kEqT (isX rfl) (isX rfl) tu3 (decide_eq_true (by omega))) ?_
  refine hcons (kEqTS (isX rfl) (isX rfl) tu9 (decide_eq_true rfl)) ?_
  refine hcons (kEqS (isX rfl) (isX rfl) (decide_eq_true rfl)) ?_
  exact hnil
theorem path16 (t : Int) (id : Int) (c : List UInt8) (more : List UInt8) (cut : Int) (b0 : 0 ≤ t) (b1 : t ≤ 255) (b2 : 0 ≤ id) (b3 : id ≤ 65535) (b4 : c.length ≤ 9223372036854775807) (b5 : more.length ≤ 9223372036854775807) (b6 : 0 ≤ cut) (b7 : cut ≤ 65535) (h0 : ¬ (2000 < (c.length : Int))) (h1 : ¬ (200 < (more.length : Int))) (h2 : ¬ (t = 0)) (h3 : ¬ ((-(max ((c.length : Int)) 0)) % 8 = 0)) (h4 : ¬ ((-(max ((c.length : Int)) 0)) % 8 = 1)) (h5 : ¬ ((-(max ((c.length : Int)) 0)) % 8 = 2)) (h6 : (-(max ((c.length : Int)) 0)) % 8 = 3) (h18 : ¬ ((cut % ((c.length : Int) + 11)) = 0)) (h19 : (cut % ((c.length : Int) + 11)) < 8) (w : World) (hl : laidE w) : Calls Try.prog 3 #[.int .u8 t, .int .u16 id, St' c, .bool true, St' more, .int .u16 cut] w fun e w' => e = .returned (.bool true) ∧ Go.AX.Below w.heap.size w w' := by
  obtain ⟨fi, hfi, hb⟩ : ∃ fi, tabk.fn.get 3 = some fi ∧ fi.body.isSome = true := ⟨_, rfl, by kernel_rfl⟩
  exact runP (tb := tab16) ((tabkOk (nuL (nu16 t id c more cut)) (one16 t id c more cut)).hyps (hyOk16 t id c more cut b0 b1 b2 b3 b4 b5 b6 b7 h0 h1 h2 h3 h4 h5 h6 h18 h19)) rfl hfi hb (run16 ) (args := [.int .u8 t, .int .u16 id, St' c, .bool true, St' more, .int .u16 cut]) (by simp only [RelL, Rel]; exact ⟨_, _, rfl, rfl, ⟨_, _, rfl, rfl, ⟨_, _, rfl, rfl, ⟨_, _, rfl, rfl, ⟨_, _, rfl, rfl, ⟨_, _, rfl, rfl, rfl⟩⟩⟩⟩⟩⟩) w hl
def hy17 : List (HK × AV) := [(.len (.x 2), .x 5),
  (.bin .gtr (.x 5) (.i .i64 (.ofNat 2000)), .b false),
  (.len (.x 3), .x 6),
  (.bin .gtr (.x 6) (.i .i64 (.ofNat 200)), .b false),
  (.bin .eql (.x 0) (.i .u8 (.ofNat 0)), .b false),
  (.conv 3 (.x 0), .x 7),
  (.conv 3 (.x 1), .x 8),
  (.mm true (.x 5) (.i .i64 (.ofNat 0)), .x 9),
  (.un .neg (.x 9), .x 10),
  (.bin .and (.x 10) (.i .i64 (.ofNat 7)), .i .i64 (.ofNat 3)),
  (.bin .geq (.x 7) (.i .i64 (.ofNat 1)), .b true),
  (.bin .leq (.x 7) (.i .i64 (.ofNat 255)), .b true),
  (.bin .geq (.x 8) (.i .i64 (.ofNat 0)), .b true),
  (.bin .leq (.x 8) (.i .i64 (.ofNat 65535)), .b true),
  (.bin .leq (.x 5) (.i .i64 (.ofNat 65535)), .b true),
  (.conv 5 (.x 7), .x 11),
  (.bin .shr (.x 8) (.i .u64 (.ofNat 8)), .x 12),
  (.conv 5 (.x 12), .x 13),
  (.conv 5 (.x 8), .x 14),
  (.bin .shr (.x 5) (.i .u64 (.ofNat 8)), .x 15),
  (.conv 5 (.x 15), .x 16),
  (.conv 5 (.x 5), .x 17),
  (.bytes [.i .u8 (.ofNat 1), .x 11, .x 13, .x 14, .x 16, .x 17, .i .u8 (.ofNat 3), .i .u8 (.ofNat 0)], .x 18),
  (.bin .add (.x 18) (.x 2), .x 19),
  (.bin .add (.x 19) (.s 3 0), .x 20),
  (.len (.x 20), .x 21),
  (.bin .lss (.x 21) (.i .i64 (.ofNat 8)), .b false),
  (.bin .rem (.x 21) (.i .i64 (.ofNat 8)), .x 22),
  (.bin .neq (.x 22) (.i .i64 (.ofNat 0)), .b false),
  (.bin .add (.x 20) (.x 3), .x 23),
  (.bin .neq (.x 23) (.s 0 0), .b true),
  (.idx (.x 23) (.i .i64 (.ofNat 0)), .i .u8 (.ofNat 1)),
  (.len (.x 23), .x 24),
  (.bin .lss (.x 24) (.i .i64 (.ofNat 8)), .b false),
  (.idx (.x 23) (.i .i64 (.ofNat 4)), .x 25),
  (.conv 3 (.x 25), .x 26),
  (.bin .shl (.x 26) (.i .u64 (.ofNat 8)), .x 27),
  (.bin .add (.i .i64 (.ofNat 8)) (.x 27), .x 28),
  (.idx (.x 23) (.i .i64 (.ofNat 5)), .x 29),
  (.conv 3 (.x 29), .x 30),
  (.bin .add (.x 28) (.x 30), .x 31),
  (.idx (.x 23) (.i .i64 (.ofNat 6)), .i .u8 (.ofNat 3)),
  (.bin .add (.x 31) (.i .i64 (.ofNat 3)), .x 32),
  (.bin .lss (.x 24) (.x 32), .b false),
  (.idx (.x 23) (.i .i64 (.ofNat 1)), .x 33),
  (.bin .eql (.x 33) (.i .u8 (.ofNat 0)), .b false),
  (.conv 3 (.x 33), .x 34),
  (.idx (.x 23) (.i .i64 (.ofNat 2)), .x 35),
  (.conv 3 (.x 35), .x 36),
  (.bin .shl (.x 36) (.i .u64 (.ofNat 8)), .x 37),
  (.idx (.x 23) (.i .i64 (.ofNat 3)), .x 38),
  (.conv 3 (.x 38), .x 39),
  (.bin .or (.x 37) (.x 39), .x 40),
  (.bin .sub (.x 32) (.i .i64 (.ofNat 3)), .x 41),
  (.sub (.x 23) (some (.i .i64 (.ofNat 8))) (some (.x 41)), .x 42),
  (.sub (.x 23) (some (.x 32)) none, .x 43),
  (.conv 3 (.x 4), .x 44),
  (.bin .rem (.x 44) (.x 21), .x 45),
  (.sub (.x 20) none (some (.x 45)), .x 46),
  (.bin .neq (.x 46) (.s 0 0), .b true),
  (.idx (.x 46) (.i .i64 (.ofNat 0)), .i .u8 (.ofNat 1)),
  (.len (.x 46), .x 47),
  (.bin .lss (.x 47) (.i .i64 (.ofNat 8)), .b false),
  (.idx (.x 46) (.i .i64 (.ofNat 4)), .x 48),
  (.conv 3 (.x 48), .x 49),
  (.bin .shl (.x 49) (.i .u64 (.ofNat 8)), .x 50),
  (.bin .add (.i .i64 (.ofNat 8)) (.x 50), .x 51),
  (.idx (.x 46) (.i .i64 (.ofNat 5)), .x 52),
  (.conv 3 (.x 52), .x 53),
  (.bin .add (.x 51) (.x 53), .x 54),
  (.idx (.x 46) (.i .i64 (.ofNat 6)), .i .u8 (.ofNat 3)),
  (.bin .add (.x 54) (.i .i64 (.ofNat 3)), .x 55),
  (.bin .lss (.x 47) (.x 55), .b true),
  (.eq 3 (.x 34) (.x 7), .b true),
  (.eq 3 (.x 40) (.x 8), .b true),
  (.eq 9 (.x 42) (.x 2), .b true),
  (.bin .eql (.x 43) (.x 3), .b true)]
noncomputable def tab17 : Tab := { tabk with hyp := hy17 }
theorem run17 : okB (call tab17 9000 3 [.x 0, .x 1, .x 2, .b true, .x 3, .x 4] ⟨H0 , 1, 0, 0⟩) = true := by kernel_rfl
def nu17 (t : Int) (id : Int) (c : List UInt8) (more : List UInt8) (cut : Int) : List Value := [.int .u8 (t),
  .int .u16 (id),
  St' c,
  St' more,
  .int .u16 (cut),
  .int .i64 ((c.length : Int)),
  .int .i64 ((more.length : Int)),
  .int .i64 (t),
  .int .i64 (id),
  .int .i64 (max ((c.length : Int)) 0),
  .int .i64 (-(max ((c.length : Int)) 0)),
  .int .u8 (t),
  .int .i64 (id / 256),
  .int .u8 (id / 256),
  .int .u8 (id % 256),
  .int .i64 (((c.length : Int)) / 256),
  .int .u8 ((((c.length : Int)) / 256) % 256),
  .int .u8 (((c.length : Int)) % 256),
  St' ([u8 1, u8 (t), u8 (id / 256), u8 (id % 256), u8 ((((c.length : Int)) / 256) % 256), u8 (((c.length : Int)) % 256), u8 3, u8 0]),
  St' (([u8 1, u8 (t), u8 (id / 256), u8 (id % 256), u8 ((((c.length : Int)) / 256) % 256), u8 (((c.length : Int)) % 256), u8 3, u8 0] ++ c)),
  St' (([u8 1, u8 (t), u8 (id / 256), u8 (id % 256), u8 ((((c.length : Int)) / 256) % 256), u8 (((c.length : Int)) % 256), u8 3, u8 0] ++ (c ++ [u8 0, u8 0, u8 0]))),
  .int .i64 ((c.length : Int) + 11),
  .int .i64 (((c.length : Int) + 11) % 8),
  St' (([u8 1, u8 (t), u8 (id / 256), u8 (id % 256), u8 ((((c.length : Int)) / 256) % 256), u8 (((c.length : Int)) % 256), u8 3, u8 0] ++ (c ++ ([u8 0, u8 0, u8 0] ++ more)))),
  .int .i64 ((c.length : Int) + (more.length : Int) + 11),
  .int .u8 ((((c.length : Int)) / 256) % 256),
  .int .i64 ((((c.length : Int)) / 256) % 256),
  .int .i64 (((((c.length : Int)) / 256) % 256) * 256),
  .int .i64 (8 + (((((c.length : Int)) / 256) % 256) * 256)),
  .int .u8 (((c.length : Int)) % 256),
  .int .i64 (((c.length : Int)) % 256),
  .int .i64 ((8 + (((((c.length : Int)) / 256) % 256) * 256)) + (((c.length : Int)) % 256)),
  .int .i64 (((8 + (((((c.length : Int)) / 256) % 256) * 256)) + (((c.length : Int)) % 256)) + 3),
  .int .u8 (t),
  .int .i64 (t),
  .int .u8 (id / 256),
  .int .i64 (id / 256),
  .int .i64 ((id / 256) * 256),
  .int .u8 (id % 256),
  .int .i64 (id % 256),
  .int .i64 (((id / 256) * 256) + (id % 256)),
  .int .i64 ((((8 + (((((c.length : Int)) / 256) % 256) * 256)) + (((c.length : Int)) % 256)) + 3) - 3),
  St' c,
  St' more,
  .int .i64 (cut),
  .int .i64 (cut % ((c.length : Int) + 11)),
  St' ((List.take (cut % ((c.length : Int) + 11)).toNat (([u8 1, u8 (t), u8 (id / 256), u8 (id % 256), u8 ((((c.length : Int)) / 256) % 256), u8 (((c.length : Int)) % 256), u8 3, u8 0] ++ (c ++ [u8 0, u8 0, u8 0]))))),
  .int .i64 ((cut % ((c.length : Int) + 11))),
  .int .u8 ((((c.length : Int)) / 256) % 256),
  .int .i64 ((((c.length : Int)) / 256) % 256),
  .int .i64 (((((c.length : Int)) / 256) % 256) * 256),
  .int .i64 (8 + (((((c.length : Int)) / 256) % 256) * 256)),
  .int .u8 (((c.length : Int)) % 256),
  .int .i64 (((c.length : Int)) % 256),
  .int .i64 ((8 + (((((c.length : Int)) / 256) % 256) * 256)) + (((c.length : Int)) % 256)),
  .int .i64 (((8 + (((((c.length : Int)) / 256) % 256) * 256)) + (((c.length : Int)) % 256)) + 3)]
theorem one17 (t : Int) (id : Int) (c : List UInt8) (more : List UInt8) (cut : Int) : ∀ j, (nuL (nu17 t id c more cut) j).oneCell' = true := nuL_one (l := nu17 t id c more cut) rfl
set_option maxHeartbeats 2000000 in
theorem hyOk17 (t : Int) (id : Int) (c : List UInt8) (more : List UInt8) (cut : Int) (b0 : 0 ≤ t) (b1 : t ≤ 255) (b2 : 0 ≤ id) (b3 : id ≤ 65535) (b4 : c.length ≤ 9223372036854775807) (b5 : more.length ≤ 9223372036854775807) (b6 : 0 ≤ cut) (b7 : cut ≤ 65535) (h0 : ¬ (2000 < (c.length : Int))) (h1 : ¬ (200 < (more.length : Int))) (h2 : ¬ (t = 0)) (h3 : ¬ ((-(max ((c.length : Int)) 0)) % 8 = 0)) (h4 : ¬ ((-(max ((c.length : Int)) 0)) % 8 = 1)) (h5 : ¬ ((-(max ((c.length : Int)) 0)) % 8 = 2)) (h6 : (-(max ((c.length : Int)) 0)) % 8 = 3) (h18 : ¬ ((cut % ((c.length : Int) + 11)) = 0)) (h19 : ¬ ((cut % ((c.length : Int) + 11)) < 8)) : ∀ k r, (k, r) ∈ hy17 → HOk (cx (nuL (nu17 t id c more cut)) (one17 t id c more cut) 0 laidE laidE_stab) k r := by
  have := Int.emod_nonneg cut (show ((c.length : Int) + 11) ≠ 0 by omega); have := Int.emod_lt_of_pos cut (show 0 < ((c.length : Int) + 11) by omega)
  unfold hy17
  refine hcons (kLenE (isX rfl) (denX rfl) (by first | omega | (simp only [List.length_append, List.length_cons, List.length_nil, List.length_take, List.length_drop, Int.natCast_add] at *; omega))) ?_
  refine hcons (kGt (isX rfl) (isZ (m := 2000) rfl) (decide_eq_false (by omega))) ?_
  refine hcons (kLenE (isX rfl) (denX rfl) (by first | omega | (simp only [List.length_append, List.length_cons, List.length_nil, List.length_take, List.length_drop, Int.natCast_add] at *; omega))) ?_
  refine hcons (kGt (isX rfl) (isZ (m := 200) rfl) (decide_eq_false (by omega))) ?_
  refine hcons (kEqI (isX rfl) (isZ (m := 0) rfl) (decide_eq_false (by omega))) ?_
  refine hcons (kConvF (isX rfl) tu3 (denX rfl) (fI64 (by omega) (by omega))) ?_
  refine hcons (kConvF (isX rfl) tu3 (denX rfl) (fI64 (by omega) (by omega))) ?_
  refine hcons (kMax (isX rfl) (isZ (m := 0) rfl) (denX rfl) rfl) ?_
  refine hcons (kNeg (isX rfl) (denX rfl) rfl (fI64 (by omega) (by omega))) ?_
  refine hcons (kAndG 3 8 rfl (by decide) (isX rfl) (isZ (m := 7) rfl) (denZ (m := 3) rfl) (fI64 (by omega) (by omega)) rfl (by omega) (fI64 (by omega) (by omega))) ?_
  refine hcons (kGe (isX rfl) (isZ (m := 1) rfl) (decide_eq_true (by omega))) ?_
  refine hcons (kLe (isX rfl) (isZ (m := 255) rfl) (decide_eq_true (by omega))) ?_
  refine hcons (kGe (isX rfl) (isZ (m := 0) rfl) (decide_eq_true (by omega))) ?_
  refine hcons (kLe (isX rfl) (isZ (m := 65535) rfl) (decide_eq_true (by omega))) ?_
  refine hcons (kLe (isX rfl) (isZ (m := 65535) rfl) (decide_eq_true (by omega))) ?_
  refine hcons (kConvF (isX rfl) tu5 (denX rfl) (fU8 (by omega) (by omega))) ?_
  refine hcons (kShrM 8 256 rfl (isX rfl) (isZ (m := 8) rfl) (denX rfl) rfl (by decide) (by omega) rfl) ?_
  refine hcons (kConvF (isX rfl) tu5 (denX rfl) (fU8 (by omega) (by omega))) ?_
  refine hcons (kConv8 (isX rfl) tu5 (denX rfl) rfl) ?_
  refine hcons (kShrM 8 256 rfl (isX rfl) (isZ (m := 8) rfl) (denX rfl) rfl (by decide) (by omega) rfl) ?_
  refine hcons (kConv8 (isX rfl) tu5 (denX rfl) rfl) ?_
  refine hcons (kConv8 (isX rfl) tu5 (denX rfl) rfl) ?_
  refine hcons (kBytesB (bs := [u8 1, u8 (t), u8 (id / 256), u8 (id % 256), u8 ((((c.length : Int)) / 256) % 256), u8 (((c.length : Int)) % 256), u8 3, u8 0]) (.cons (isB8 (isZ (m := 1) rfl) (by omega) (by omega)) (.cons (isB8 (isX rfl) (by omega) (by omega)) (.cons (isB8 (isX rfl) (by omega) (by omega)) (.cons (isB8 (isX rfl) (by omega) (by omega)) (.cons (isB8 (isX rfl) (by omega) (by omega)) (.cons (isB8 (isX rfl) (by omega) (by omega)) (.cons (isB8 (isZ (m := 3) rfl) (by omega) (by omega)) (.cons (isB8 (isZ (m := 0) rfl) (by omega) (by omega)) .nil)))))))) (denX rfl)) ?_
  refine hcons (kCat (isX rfl) (isX rfl) (denX rfl) (by first | rfl | (simp only [List.append_assoc, List.cons_append, List.nil_append, List.append_nil]; done)) (by first | omega | (simp only [List.length_append, List.length_cons, List.length_nil, List.length_take, List.length_drop, Int.natCast_add] at *; omega))) ?_
  refine hcons (kCat (isX rfl) (isSx (l := [u8 0, u8 0, u8 0]) 3 0 rfl) (denX rfl) (by first | rfl | (simp only [List.append_assoc, List.cons_append, List.nil_append, List.append_nil]; done)) (by first | omega | (simp only [List.length_append, List.length_cons, List.length_nil, List.length_take, List.length_drop, Int.natCast_add] at *; omega))) ?_
  refine hcons (kLenE (isX rfl) (denX rfl) (by first | omega | (simp only [List.length_append, List.length_cons, List.length_nil, List.length_take, List.length_drop, Int.natCast_add] at *; omega))) ?_
  refine hcons (kLt (isX rfl) (isZ (m := 8) rfl) (decide_eq_false (by omega))) ?_
  refine hcons (kRem (isX rfl) (isZ (m := 8) rfl) (denX rfl) (by omega) (by omega) rfl) ?_
  refine hcons (kNeI (isX rfl) (isZ (m := 0) rfl) (neF (by omega))) ?_
  refine hcons (kCat (isX rfl) (isX rfl) (denX rfl) (by first | rfl | (simp only [List.append_assoc, List.cons_append, List.nil_append, List.append_nil]; done)) (by first | omega | (simp only [List.length_append, List.length_cons, List.length_nil, List.length_take, List.length_drop, Int.natCast_add] at *; omega))) ?_
  refine hcons (kNeS (isX rfl) (isSx (l := ([] : List UInt8)) 0 0 rfl) (bnT (by first | exact nilT (by first | omega | (simp only [List.length_append, List.length_cons, List.length_nil, List.length_take, List.length_drop, Int.natCast_add] at *; omega)) | exact nilF (by first | omega | (simp only [List.length_append, List.length_cons, List.length_nil, List.length_take, List.length_drop, Int.natCast_add] at *; omega)) | exact nilT' (by first | omega | (simp only [List.length_append, List.length_cons, List.length_nil, List.length_take, List.length_drop, Int.natCast_add] at *; omega)) | exact nilF' (by first | omega | (simp only [List.length_append, List.length_cons, List.length_nil, List.length_take, List.length_drop, Int.natCast_add] at *; omega))))) ?_
  refine hcons (kIdxE (i := 0) (isX rfl) (isZ (m := 0) rfl) (denZ (m := 1) rfl) rfl (by first | omega | (simp only [List.length_append, List.length_cons, List.length_nil, List.length_take, List.length_drop, Int.natCast_add] at *; omega)) (bt_at rfl (by omega) (by omega))) ?_
  refine hcons (kLenE (isX rfl) (denX rfl) (by first | omega | (simp only [List.length_append, List.length_cons, List.length_nil, List.length_take, List.length_drop, Int.natCast_add] at *; omega))) ?_
  refine hcons (kLt (isX rfl) (isZ (m := 8) rfl) (decide_eq_false (by omega))) ?_
  refine hcons (kIdxE (i := 4) (isX rfl) (isZ (m := 4) rfl) (denX rfl) rfl (by first | omega | (simp only [List.length_append, List.length_cons, List.length_nil, List.length_take, List.length_drop, Int.natCast_add] at *; omega)) (bt_at rfl (by omega) (by omega))) ?_
  refine hcons (kConvF (isX rfl) tu3 (denX rfl) (fI64 (by omega) (by omega))) ?_
  refine hcons (kShlM 8 256 rfl (isX rfl) (isZ (m := 8) rfl) (denX rfl) rfl (by decide) rfl (fI64 (by omega) (by omega))) ?_
  refine hcons (kAdd (isZ (m := 8) rfl) (isX rfl) (denX rfl) rfl (fI64 (by omega) (by omega))) ?_
  refine hcons (kIdxE (i := 5) (isX rfl) (isZ (m := 5) rfl) (denX rfl) rfl (by first | omega | (simp only [List.length_append, List.length_cons, List.length_nil, List.length_take, List.length_drop, Int.natCast_add] at *; omega)) (bt_at rfl (by omega) (by omega))) ?_
  refine hcons (kConvF (isX rfl) tu3 (denX rfl) (fI64 (by omega) (by omega))) ?_
  refine hcons (kAdd (isX rfl) (isX rfl) (denX rfl) rfl (fI64 (by omega) (by omega))) ?_
  refine hcons (kIdxE (i := 6) (isX rfl) (isZ (m := 6) rfl) (denZ (m := 3) rfl) rfl (by first | omega | (simp only [List.length_append, List.length_cons, List.length_nil, List.length_take, List.length_drop, Int.natCast_add] at *; omega)) (bt_at rfl (by omega) (by omega))) ?_
  refine hcons (kAdd (isX rfl) (isZ (m := 3) rfl) (denX rfl) rfl (fI64 (by omega) (by omega))) ?_
  refine hcons (kLt (isX rfl) (isX rfl) (decide_eq_false (by omega))) ?_
  refine hcons (kIdxE (i := 1) (isX rfl) (isZ (m := 1) rfl) (denX rfl) rfl (by first | omega | (simp only [List.length_append, List.length_cons, List.length_nil, List.length_take, List.length_drop, Int.natCast_add] at *; omega)) (bt_at rfl (by omega) (by omega))) ?_
  refine hcons (kEqI (isX rfl) (isZ (m := 0) rfl) (decide_eq_false (by omega))) ?_
  refine hcons (kConvF (isX rfl) tu3 (denX rfl) (fI64 (by omega) (by omega))) ?_
  refine hcons (kIdxE (i := 2) (isX rfl) (isZ (m := 2) rfl) (denX rfl) rfl (by first | omega | (simp only [List.length_append, List.length_cons, List.length_nil, List.length_take, List.length_drop, Int.natCast_add] at *; omega)) (bt_at rfl (by omega) (by omega))) ?_
  refine hcons (kConvF (isX rfl) tu3 (denX rfl) (fI64 (by omega) (by omega))) ?_
  refine hcons (kShlM 8 256 rfl (isX rfl) (isZ (m := 8) rfl) (denX rfl) rfl (by decide) rfl (fI64 (by omega) (by omega))) ?_
  refine hcons (kIdxE (i := 3) (isX rfl) (isZ (m := 3) rfl) (denX rfl) rfl (by first | omega | (simp only [List.length_append, List.length_cons, List.length_nil, List.length_take, List.length_drop, Int.natCast_add] at *; omega)) (bt_at rfl (by omega) (by omega))) ?_
  refine hcons (kConvF (isX rfl) tu3 (denX rfl) (fI64 (by omega) (by omega))) ?_
  refine hcons (kOrM 8 256 rfl (isX rfl) (isX rfl) (denX rfl) (by omega) (by omega) (fI64 (by omega) (by omega)) (fI64 (by omega) (by omega)) (by omega) (by omega) rfl (fI64 (by omega) (by omega))) ?_
  refine hcons (kSub (isX rfl) (isZ (m := 3) rfl) (denX rfl) rfl (fI64 (by omega) (by omega))) ?_
  refine hcons (kCut (isX rfl) (.inr ⟨_, _, rfl, (isZ (m := 8) rfl)⟩) (.inr ⟨_, _, rfl, (isX rfl)⟩) (p := [u8 1, u8 (t), u8 (id / 256), u8 (id % 256), u8 ((((c.length : Int)) / 256) % 256), u8 (((c.length : Int)) % 256), u8 3, u8 0]) (m := c) (q := ([u8 0, u8 0, u8 0] ++ more)) (by first | rfl | (simp only [List.append_assoc, List.cons_append, List.nil_append, List.append_nil]; done)) (by first | omega | (simp only [List.length_append, List.length_cons, List.length_nil, List.length_take, List.length_drop, Int.natCast_add] at *; omega)) (by first | omega | (simp only [List.length_append, List.length_cons, List.length_nil, List.length_take, List.length_drop, Int.natCast_add] at *; omega)) (denX rfl)) ?_
  refine hcons (kCut (isX rfl) (.inr ⟨_, _, rfl, (isX rfl)⟩) (.inl ⟨rfl, rfl⟩) (p := ([u8 1, u8 (t), u8 (id / 256), u8 (id % 256), u8 ((((c.length : Int)) / 256) % 256), u8 (((c.length : Int)) % 256), u8 3, u8 0] ++ (c ++ [u8 0, u8 0, u8 0]))) (m := more) (q := ([] : List UInt8)) (by first | rfl | (simp only [List.append_assoc, List.cons_append, List.nil_append, List.append_nil]; done)) (by first | omega | (simp only [List.length_append, List.length_cons, List.length_nil, List.length_take, List.length_drop, Int.natCast_add] at *; omega)) (by first | omega | (simp only [List.length_append, List.length_cons, List.length_nil, List.length_take, List.length_drop, Int.natCast_add] at *; omega)) (denX rfl)) ?_
  refine hcons (kConvF (isX rfl) tu3 (denX rfl) (fI64 (by omega) (by omega))) ?_
  refine hcons (kRem (isX rfl) (isX rfl) (denX rfl) (by omega) (by omega) rfl) ?_
  refine hcons (kTake (isX rfl) (isX rfl) (by first | omega | (simp only [List.length_append, List.length_cons, List.length_nil, List.length_take, List.length_drop, Int.natCast_add] at *; omega)) (by first | omega | (simp only [List.length_append, List.length_cons, List.length_nil, List.length_take, List.length_drop, Int.natCast_add] at *; omega)) (denX rfl)) ?_
  refine hcons (kNeS (isX rfl) (isSx (l := ([] : List UInt8)) 0 0 rfl) (bnT (by first | exact nilT (by first | omega | (simp only [List.length_append, List.length_cons, List.length_nil, List.length_take, List.length_drop, Int.natCast_add] at *; omega)) | exact nilF (by first | omega | (simp only [List.length_append, List.length_cons, List.length_nil, List.length_take, List.length_drop, Int.natCast_add] at *; omega)) | exact nilT' (by first | omega | (simp only [List.length_append, List.length_cons, List.length_nil, List.length_take, List.length_drop, Int.natCast_add] at *; omega)) | exact nilF' (by first | omega | (simp only [List.length_append, List.length_cons, List.length_nil, List.length_take, List.length_drop, Int.natCast_add] at *; omega))))) ?_
  refine hcons (kIdxE (i := 0) (isX rfl) (isZ (m := 0) rfl) (denZ (m := 1) rfl) rfl (by first | omega | (simp only [List.length_append, List.length_cons, List.length_nil, List.length_take, List.length_drop, Int.natCast_add] at *; omega)) ((bt_take (by omega)).trans (bt_at rfl (by omega) (by omega)))) ?_
  refine hcons (kLenE (isX rfl) (denX rfl) (by first | omega | (simp only [List.length_append, List.length_cons, List.length_nil, List.length_take, List.length_drop, Int.natCast_add] at *; omega))) ?_
  refine hcons (kLt (isX rfl) (isZ (m := 8) rfl) (decide_eq_false (by omega))) ?_
  refine hcons (kIdxE (i := 4) (isX rfl) (isZ (m := 4) rfl) (denX rfl) rfl (by first | omega | (simp only [List.length_append, List.length_cons, List.length_nil, List.length_take, List.length_drop, Int.natCast_add] at *; omega)) ((bt_take (by omega)).trans (bt_at rfl (by omega) (by omega)))) ?_
  refine hcons (kConvF (isX rfl) tu3 (denX rfl) (fI64 (by omega) (by omega))) ?_
  refine hcons (kShlM 8 256 rfl (isX rfl) (isZ (m := 8) rfl) (denX rfl) rfl (by decide) rfl (fI64 (by omega) (by omega))) ?_
  refine hcons (kAdd (isZ (m := 8) rfl) (isX rfl) (denX rfl) rfl (fI64 (by omega) (by omega))) ?_
  refine hcons (kIdxE (i := 5) (isX rfl) (isZ (m := 5) rfl) (denX rfl) rfl (by first | omega | (simp only [List.length_append, List.length_cons, List.length_nil, List.length_take, List.length_drop, Int.natCast_add] at *; omega)) ((bt_take (by omega)).trans (bt_at rfl (by omega) (by omega)))) ?_
  refine hcons (kConvF (isX rfl) tu3 (denX rfl) (fI64 (by omega) (by omega))) ?_
  refine hcons (kAdd (isX rfl) (isX rfl) (denX rfl) rfl (fI64 (by omega) (by omega))) ?_
  refine hcons (kIdxE (i := 6) (isX rfl) (isZ (m := 6) rfl) (denZ (m := 3) rfl) rfl (by first | omega | (simp only [List.length_append, List.length_cons, List.length_nil, List.length_take, List.length_drop, Int.natCast_add] at *; omega)) ((bt_take (by omega)).trans (bt_at rfl (by omega) (by omega)))) ?_
  refine hcons (kAdd (isX rfl) (isZ (m := 3) rfl) (denX rfl) rfl (fI64 (by omega) (by omega))) ?_
  refine hcons (kLt (isX rfl) (isX rfl) (decide_eq_true (by omega))) ?_
  refine hcons (kEqT (isX rfl) (isX rfl) tu3 (decide_eq_true (by omega))) ?_
  refine hcons (kEqT (isX rfl) (isX rfl) tu3 (decide_eq_true (by omega))) ?_
  refine hcons (kEqTS (isX rfl) (isX rfl) tu9 (decide_eq_true rfl)) ?_
  refine hcons (kEqS (isX rfl) (isX rfl) (decide_eq_true rfl)) ?_
  exact hnil
theorem path17 (t : Int) (id : Int) (c : List UInt8) (more : List UInt8) (cut : Int) (b0 : 0 ≤ t) (b1 : t ≤ 255) (b2 : 0 ≤ id) (b3 : id ≤ 65535) (b4 : c.length ≤ 9223372036854775807) (b5 : more.length ≤ 9223372036854775807) (b6 : 0 ≤ cut) (b7 : cut ≤ 65535) (h0 : ¬ (2000 < (c.length : Int))) (h1 : ¬ (200 < (more.length : Int))) (h2 : ¬ (t = 0)) (h3 : ¬ ((-(max ((c.length : Int)) 0)) % 8 = 0)) (h4 : ¬ ((-(max ((c.length : Int)) 0)) % 8 = 1)) (h5 : ¬ ((-(max ((c.length : Int)) 0)) % 8 = 2)) (h6 : (-(max ((c.length : Int)) 0)) % 8 = 3) (h18 : ¬ ((cut % ((c.length : Int) + 11)) = 0)) (h19 : ¬ ((cut % ((c.length : Int) + 11)) < 8)) (w : World) (hl : laidE w) : Calls Try.prog 3 #[.int .u8 t, .int .u16 id, St' c, .bool true, St' more, .int .u16 cut] w fun e w' => e = .returned (.bool true) ∧ Go.AX.Below w.heap.size w w' := by
  obtain ⟨fi, hfi, hb⟩ : ∃ fi, tabk.fn.get 3 = some fi ∧ fi.body.isSome = true := ⟨_, rfl, by kernel_rfl⟩
  exact runP (tb := tab17) ((tabkOk (nuL (nu17 t id c more cut)) (one17 t id c more cut)).hyps (hyOk17 t id c more cut b0 b1 b2 b3 b4 b5 b6 b7 h0 h1 h2 h3 h4 h5 h6 h18 h19)) rfl hfi hb (run17 ) (args := [.int .u8 t, .int .u16 id, St' c, .bool true, St' more, .int .u16 cut]) (by simp only [RelL, Rel]; exact ⟨_, _, rfl, rfl, ⟨_, _, rfl, rfl, ⟨_, _, rfl, rfl, ⟨_, _, rfl, rfl, ⟨_, _, rfl, rfl, ⟨_, _, rfl, rfl, rfl⟩⟩⟩⟩⟩⟩) w hl
def hy18 : List (HK × AV) := [(.len (.x 2), .x 5),
  (.bin .gtr (.x 5) (.i .i64 (.ofNat 2000)), .b false),
  (.len (.x 3), .x 6),
  (.bin .gtr (.x 6) (.i .i64 (.ofNat 200)), .b false),
  (.bin .eql (.x 0) (.i .u8 (.ofNat 0)), .b false),
  (.conv 3 (.x 0), .x 7),
  (.conv 3 (.x 1), .x 8),
  (.mm true (.x 5) (.i .i64 (.ofNat 0)), .x 9),
  (.un .neg (.x 9), .x 10),
  (.bin .and (.x 10) (.i .i64 (.ofNat 7)), .i .i64 (.ofNat 2)),
  (.bin .geq (.x 7) (.i .i64 (.ofNat 1)), .b true),
  (.bin .leq (.x 7) (.i .i64 (.ofNat 255)), .b true),
  (.bin .geq (.x 8) (.i .i64 (.ofNat 0)), .b true),
  (.bin .leq (.x 8) (.i .i64 (.ofNat 65535)), .b true),
  (.bin .leq (.x 5) (.i .i64 (.ofNat 65535)), .b true),
  (.conv 5 (.x 7), .x 11),
  (.bin .shr (.x 8) (.i .u64 (.ofNat 8)), .x 12),
  (.conv 5 (.x 12), .x 13),
  (.conv 5 (.x 8), .x 14),
  (.bin .shr (.x 5) (.i .u64 (.ofNat 8)), .x 15),
  (.conv 5 (.x 15), .x 16),
  (.conv 5 (.x 5), .x 17),
  (.bytes [.i .u8 (.ofNat 1), .x 11, .x 13, .x 14, .x 16, .x 17, .i .u8 (.ofNat 2), .i .u8 (.ofNat 0)], .x 18),
  (.bin .add (.x 18) (.x 2), .x 19),
  (.bin .add (.x 19) (.s 2 0), .x 20),
  (.len (.x 20), .x 21),
  (.bin .lss (.x 21) (.i .i64 (.ofNat 8)), .b false),
  (.bin .rem (.x 21) (.i .i64 (.ofNat 8)), .x 22),
  (.bin .neq (.x 22) (.i .i64 (.ofNat 0)), .b false),
  (.bin .add (.x 20) (.x 3), .x 23),
  (.bin .neq (.x 23) (.s 0 0), .b true),
  (.idx (.x 23) (.i .i64 (.ofNat 0)), .i .u8 (.ofNat 1)),
  (.len (.x 23), .x 24),
  (.bin .lss (.x 24) (.i .i64 (.ofNat 8)), .b false),
  (.idx (.x 23) (.i .i64 (.ofNat 4)), .x 25),
  (.conv 3 (.x 25), .x 26),
  (.bin .shl (.x 26) (.i .u64 (.ofNat 8)), .x 27),
  (.bin .add (.i .i64 (.ofNat 8)) (.x 27), .x 28),
  (.idx (.x 23) (.i .i64 (.ofNat 5)), .x 29),
  (.conv 3 (.x 29), .x 30),
  (.bin .add (.x 28) (.x 30), .x 31),
  (.idx (.x 23) (.i .i64 (.ofNat 6)), .i .u8 (.ofNat 2)),
  (.bin .add (.x 31) (.i .i64 (.ofNat 2)), .x 32),
  (.bin .lss (.x 24) (.x 32), .b false),
  (.idx (.x 23) (.i .i64 (.ofNat 1)), .x 33),
  (.bin .eql (.x 33) (.i .u8 (.ofNat 0)), .b false),
  (.conv 3 (.x 33), .x 34),
  (.idx (.x 23) (.i .i64 (.ofNat 2)), .x 35),
  (.conv 3 (.x 35), .x 36),
  (.bin .shl (.x 36) (.i .u64 (.ofNat 8)), .x 37),
  (.idx (.x 23) (.i .i64 (.ofNat 3)), .x 38),
  (.conv 3 (.x 38), .x 39),
  (.bin .or (.x 37) (.x 39), .x 40),
  (.bin .sub (.x 32) (.i .i64 (.ofNat 2)), .x 41),
  (.sub (.x 23) (some (.i .i64 (.ofNat 8))) (some (.x 41)), .x 42),
  (.sub (.x 23) (some (.x 32)) none, .x 43),
  (.conv 3 (.x 4), .x 44),
  (.bin .rem (.x 44) (.x 21), .x 45),
  (.sub (.x 20) none (some (.x 45)), .x 46),
  (.bin .neq (.x 46) (.s 0 0), .b false),
  (.len (.x 46), .x 47),
  (.bin .lss (.x 47) (.i .i64 (.ofNat 8)), .b true),
  (.eq 3 (.x 34) (.x 7), .b true),
  (.eq 3 (.x 40) (.x 8), .b true),
  (.eq 9 (.x 42) (.x 2), .b true),
  (.bin .eql (.x 43) (.x 3), .b true)]
noncomputable def tab18 : Tab := { tabk with hyp := hy18 }
theorem run18 : okB (call tab18 9000 3 [.x 0, .x 1, .x 2, .b true, .x 3, .x 4] ⟨H0 , 1, 0, 0⟩) = true := by kernel_rfl
def nu18 (t : Int) (id : Int) (c : List UInt8) (more : List UInt8) (cut : Int) : List Value := [.int .u8 (t),
  .int .u16 (id),
  St' c,
  St' more,
  .int .u16 (cut),
  .int .i64 ((c.length : Int)),
  .int .i64 ((more.length : Int)),
  .int .i64 (t),
  .int .i64 (id),
  .int .i64 (max ((c.length : Int)) 0),
  .int .i64 (-(max ((c.length : Int)) 0)),
  .int .u8 (t),
  .int .i64 (id / 256),
  .int .u8 (id / 256),
  .int .u8 (id % 256),
  .int .i64 (((c.length : Int)) / 256),
  .int .u8 ((((c.length : Int)) / 256) % 256),
  .int .u8 (((c.length : Int)) % 256),
  St' ([u8 1, u8 (t), u8 (id / 256), u8 (id % 256), u8 ((((c.length : Int)) / 256) % 256), u8 (((c.length : Int)) % 256), u8 2, u8 0]),
  St' (([u8 1, u8 (t), u8 (id / 256), u8 (id % 256), u8 ((((c.length : Int)) / 256) % 256), u8 (((c.length : Int)) % 256), u8 2, u8 0] ++ c)),
  St' (([u8 1, u8 (t), u8 (id / 256), u8 (id % 256), u8 ((((c.length : Int)) / 256) % 256), u8 (((c.length : Int)) % 256), u8 2, u8 0] ++ (c ++ [u8 0, u8 0]))),
  .int .i64 ((c.length : Int) + 10),
  .int .i64 (((c.length : Int) + 10) % 8),
  St' (([u8 1, u8 (t), u8 (id / 256), u8 (id % 256), u8 ((((c.length : Int)) / 256) % 256), u8 (((c.length : Int)) % 256), u8 2, u8 0] ++ (c ++ ([u8 0, u8 0] ++ more)))),
  .int .i64 ((c.length : Int) + (more.length : Int) + 10),
  .int .u8 ((((c.length : Int)) / 256) % 256),
  .int .i64 ((((c.length : Int)) / 256) % 256),
  .int .i64 (((((c.length : Int)) / 256) % 256) * 256),
  .int .i64 (8 + (((((c.length : Int)) / 256) % 256) * 256)),
  .int .u8 (((c.length : Int)) % 256),
  .int .i64 (((c.length : Int)) % 256),
  .int .i64 ((8 + (((((c.length : Int)) / 256) % 256) * 256)) + (((c.length : Int)) % 256)),
  .int .i64 (((8 + (((((c.length : Int)) / 256) % 256) * 256)) + (((c.length : Int)) % 256)) + 2),
  .int .u8 (t),
  .int .i64 (t),
  .int .u8 (id / 256),
  .int .i64 (id / 256),
  .int .i64 ((id / 256) * 256),
  .int .u8 (id % 256),
  .int .i64 (id % 256),
  .int .i64 (((id / 256) * 256) + (id % 256)),
  .int .i64 ((((8 + (((((c.length : Int)) / 256) % 256) * 256)) + (((c.length : Int)) % 256)) + 2) - 2),
  St' c,
  St' more,
  .int .i64 (cut),
  .int .i64 (cut % ((c.length : Int) + 10)),
  St' ((List.take (cut % ((c.length : Int) + 10)).toNat (([u8 1, u8 (t), u8 (id / 256), u8 (id % 256), u8 ((((c.length : Int)) / 256) % 256), u8 (((c.length : Int)) % 256), u8 2, u8 0] ++ (c ++ [u8 0, u8 0]))))),
  .int .i64 ((cut % ((c.length : Int) + 10)))]
theorem one18 (t : Int) (id : Int) (c : List UInt8) (more : List UInt8) (cut : Int) : ∀ j, (nuL (nu18 t id c more cut) j).oneCell' = true := nuL_one (l := nu18 t id c more cut) rfl
set_option maxHeartbeats 2000000 in
theorem hyOk18 (t : Int) (id : Int) (c : List UInt8) (more : List UInt8) (cut : Int) (b0 : 0 ≤ t) (b1 : t ≤ 255) (b2 : 0 ≤ id) (b3 : id ≤ 65535) (b4 : c.length ≤ 9223372036854775807) (b5 : more.length ≤ 9223372036854775807) (b6 : 0 ≤ cut) (b7 : cut ≤ 65535) (h0 : ¬ (2000 < (c.length : Int))) (h1 : ¬ (200 < (more.length : Int))) (h2 : ¬ (t = 0)) (h3 : ¬ ((-(max ((c.length : Int)) 0)) % 8 = 0)) (h4 : ¬ ((-(max ((c.length : Int)) 0)) % 8 = 1)) (h5 : (-(max ((c.length : Int)) 0)) % 8 = 2) (h17 : (cut % ((c.length : Int) + 10)) = 0) : ∀ k r, (k, r) ∈ hy18 → HOk (cx (nuL (nu18 t id c more cut)) (one18 t id c more cut) 0 laidE laidE_stab) k r := by
  have := Int.emod_nonneg cut (show ((c.length : Int) + 10) ≠ 0 by omega); have := Int.emod_lt_of_pos cut (show 0 < ((c.length : Int) + 10) by omega)
  unfold hy18
  refine hcons (kLenE (isX rfl) (denX rfl) (by first | omega | (simp only [List.length_append, List.length_cons, List.length_nil, List.length_take, List.length_drop, Int.natCast_add] at *; omega))) ?_
  refine hcons (kGt (isX rfl) (isZ (m := 2000) rfl) (decide_eq_false (by omega))) ?_
  refine hcons (kLenE (isX rfl) (denX rfl) (by first | omega | (simp only [List.length_append, List.length_cons, List.length_nil, List.length_take, List.length_drop, Int.natCast_add] at *; omega))) ?_
  refine hcons (kGt (isX rfl) (isZ (m := 200) rfl) (decide_eq_false (by omega))) ?_
  refine hcons (kEqI (isX rfl) (isZ (m := 0) rfl) (decide_eq_false (by omega))) ?_
  refine hcons (kConvF (isX rfl) tu3 (denX rfl) (fI64 (by omega) (by omega))) ?_
  refine hcons (kConvF (isX rfl) tu3 (denX rfl) (fI64 (by omega) (by omega))) ?_
  refine hcons (kMax (isX rfl) (isZ (m := 0) rfl) (denX rfl) rfl) ?_
  refine hcons (kNeg (isX rfl) (denX rfl) rfl (fI64 (by omega) (by omega))) ?_
  refine hcons (kAndG 3 8 rfl (by decide) (isX rfl) (isZ (m := 7) rfl) (denZ (m := 2) rfl) (fI64 (by omega) (by omega)) rfl (by omega) (fI64 (by omega) (by omega))) ?_
  refine hcons (kGe (isX rfl) (isZ (m := 1) rfl) (decide_eq_true (by omega))) ?_
  refine hcons (kLe (isX rfl) (isZ (m := 255) rfl) (decide_eq_true (by omega))) ?_
  refine hcons (kGe (isX rfl) (isZ (m := 0) rfl) (decide_eq_true (by omega))) ?_
  refine hcons (kLe (isX rfl) (isZ (m := 65535) rfl) (decide_eq_true (by omega))) ?_
  refine hcons (kLe (isX rfl) (isZ (m := 65535) rfl) (decide_eq_true (by omega))) ?_
  refine hcons (kConvF (isX rfl) tu5 (denX rfl) (fU8 (by omega) (by omega))) ?_
  refine hcons (kShrM 8 256 rfl (isX rfl) (isZ (m := 8) rfl) (denX rfl) rfl (by decide) (by omega) rfl) ?_
  refine hcons (kConvF (isX rfl) tu5 (denX rfl) (fU8 (by omega) (by omega))) ?_
  refine hcons (kConv8 (isX rfl) tu5 (denX rfl) rfl) ?_
  refine hcons (kShrM 8 256 rfl (isX rfl) (isZ (m := 8) rfl) (denX rfl) rfl (by decide) (by omega) rfl) ?_
  refine hcons (kConv8 (isX rfl) tu5 (denX rfl) rfl) ?_
  refine hcons (kConv8 (isX rfl) tu5 (denX rfl) rfl) ?_
  refine hcons (kBytesB (bs := [u8 1, u8 (t), u8 (id / 256), u8 (id % 256), u8 ((((c.length : Int)) / 256) % 256), u8 (((c.length : Int)) % 256), u8 2, u8 0]) (.cons (isB8 (isZ (m := 1) rfl) (by omega) (by omega)) (.cons (isB8 (isX rfl) (by omega) (by omega)) (.cons (isB8 (isX rfl) (by omega) (by omega)) (.cons (isB8 (isX rfl) (by omega) (by omega)) (.cons (isB8 (isX rfl) (by omega) (by omega)) (.cons (isB8 (isX rfl) (by omega) (by omega)) (.cons (isB8 (isZ (m := 2) rfl) (by omega) (by omega)) (.cons (isB8 (isZ (m := 0) rfl) (by omega) (by omega)) .nil)))))))) (denX rfl)) ?_
  refine hcons (kCat (isX rfl) (isX rfl) (denX rfl) (by first | rfl | (simp only [List.append_assoc, List.cons_append, List.nil_append, List.append_nil]; done)) (by first | omega | (simp only [List.length_append, List.length_cons, List.length_nil, List.length_take, List.length_drop, Int.natCast_add] at *; omega))) ?_
  refine hcons (kCat (isX rfl) (isSx (l := [u8 0, u8 0]) 2 0 rfl) (denX rfl) (by first | rfl | (simp only [List.append_assoc, List.cons_append, List.nil_append, List.append_nil]; done)) (by first | omega | (simp only [List.length_append, List.length_cons, List.length_nil, List.length_take, List.length_drop, Int.natCast_add] at *; omega))) ?_
  refine hcons (kLenE (isX rfl) (denX rfl) (by first | omega | (simp only [List.length_append, List.length_cons, List.length_nil, List.length_take, List.length_drop, Int.natCast_add] at *; omega))) ?_
  refine hcons (kLt (isX rfl) (isZ (m := 8) rfl) (decide_eq_false (by omega))) ?_
  refine hcons (kRem (isX rfl) (isZ (m := 8) rfl) (denX rfl) (by omega) (by omega) rfl) ?_
  refine hcons (kNeI (isX rfl) (isZ (m := 0) rfl) (neF (by omega))) ?_
  refine hcons (kCat (isX rfl) (isX rfl) (denX rfl) (by first | rfl | (simp only [List.append_assoc, List.cons_append, List.nil_append, List.append_nil]; done)) (by first | omega | (simp only [List.length_append, List.length_cons, List.length_nil, List.length_take, List.length_drop, Int.natCast_add] at *; omega))) ?_
  refine hcons (kNeS (isX rfl) (isSx (l := ([] : List UInt8)) 0 0 rfl) (bnT (by first | exact nilT (by first | omega | (simp only [List.length_append, List.length_cons, List.length_nil, List.length_take, List.length_drop, Int.natCast_add] at *; omega)) | exact nilF (by first | omega | (simp only [List.length_append, List.length_cons, List.length_nil, List.length_take, List.length_drop, Int.natCast_add] at *; omega)) | exact nilT' (by first | omega | (simp only [List.length_append, List.length_cons, List.length_nil, List.length_take, List.length_drop, Int.natCast_add] at *; omega)) | exact nilF' (by first | omega | (simp only [List.length_append, List.length_cons, List.length_nil, List.length_take, List.length_drop, Int.natCast_add] at *; omega))))) ?_
  refine hcons (kIdxE (i := 0) (isX rfl) (isZ (m := 0) rfl) (denZ (m := 1) rfl) rfl (by first | omega | (simp only [List.length_append, List.length_cons, List.length_nil, List.length_take, List.length_drop, Int.natCast_add] at *; omega)) (bt_at rfl (by omega) (by omega))) ?_
  refine hcons (kLenE (isX rfl) (denX rfl) (by first | omega | (simp only [List.length_append, List.length_cons, List.length_nil, List.length_take, List.length_drop, Int.natCast_add] at *; omega))) ?_
  refine hcons (kLt (isX rfl) (isZ (m := 8) rfl) (decide_eq_false (by omega))) ?_
  refine hcons (kIdxE (i := 4) (isX rfl) (isZ (m := 4) rfl) (denX rfl) rfl (by first | omega | (simp only [List.length_append, List.length_cons, List.length_nil, List.length_take, List.length_drop, Int.natCast_add] at *; omega)) (bt_at rfl (by omega) (by omega))) ?_
  refine hcons (kConvF (isX rfl) tu3 (denX rfl) (fI64 (by omega) (by omega))) ?_
  refine hcons (kShlM 8 256 rfl (isX rfl) (isZ (m := 8) rfl) (denX rfl) rfl (by decide) rfl (fI64 (by omega) (by omega))) ?_
  refine hcons (kAdd (isZ (m := 8) rfl) (isX rfl) (denX rfl) rfl (fI64 (by omega) (by omega))) ?_
  refine hcons (kIdxE (i := 5) (isX rfl) (isZ (m := 5) rfl) (denX rfl) rfl (by first | omega | (simp only [List.length_append, List.length_cons, List.length_nil, List.length_take, List.length_drop, Int.natCast_add] at *; omega)) (bt_at rfl (by omega) (by omega))) ?_
  refine hcons (kConvF (isX rfl) tu3 (denX rfl) (fI64 (by omega) (by omega))) ?_
  refine hcons (kAdd (isX rfl) (isX rfl) (denX rfl) rfl (fI64 (by omega) (by omega))) ?_
  refine hcons (kIdxE (i := 6) (isX rfl) (isZ (m := 6) rfl) (denZ (m := 2) rfl) rfl (by first | omega | (simp only [List.length_append, List.length_cons, List.length_nil, List.length_take, List.length_drop, Int.natCast_add] at *; omega)) (bt_at rfl (by omega) (by omega))) ?_
  refine hcons (kAdd (isX rfl) (isZ (m := 2) rfl) (denX rfl) rfl (fI64 (by omega) (by omega))) ?_
  refine hcons (kLt (isX rfl) (isX rfl) (decide_eq_false (by omega))) ?_
  refine hcons (kIdxE (i := 1) (isX rfl) (isZ (m := 1) rfl) (denX rfl) rfl (by first | omega | (simp only [List.length_append, List.length_cons, List.length_nil, List.length_take, List.length_drop, Int.natCast_add] at *; omega)) (bt_at rfl (by omega) (by omega))) ?_
  refine hcons (kEqI (isX rfl) (isZ (m := 0) rfl) (decide_eq_false (by omega))) ?_
  refine hcons (kConvF (isX rfl) tu3 (denX rfl) (fI64 (by omega) (by omega))) ?_
  refine hcons (kIdxE (i := 2) (isX rfl) (isZ (m := 2) rfl) (denX rfl) rfl (by first | omega | (simp only [List.length_append, List.length_cons, List.length_nil, List.length_take, List.length_drop, Int.natCast_add] at *; omega)) (bt_at rfl (by omega) (by omega))) ?_
  refine hcons (kConvF (isX rfl) tu3 (denX rfl) (fI64 (by omega) (by omega))) ?_
  refine hcons (kShlM 8 256 rfl (isX rfl) (isZ (m := 8) rfl) (denX rfl) rfl (by decide) rfl (fI64 (by omega) (by omega))) ?_
  refine hcons (kIdxE (i := 3) (isX rfl) (isZ (m := 3) rfl) (denX rfl) rfl (by first | omega | (simp only [List.length_append, List.length_cons, List.length_nil, List.length_take, List.length_drop, Int.natCast_add] at *; omega)) (bt_at rfl (by omega) (by omega))) ?_
  refine hcons (kConvF (isX rfl) tu3 (denX rfl) (fI64 (by omega) (by omega))) ?_
  refine hcons (kOrM 8 256 rfl (isX rfl) (isX rfl) (denX rfl) (by omega) (by omega) (fI64 (by omega) (by omega)) (fI64 (by omega) (by omega)) (by omega) (by omega) rfl (fI64 (by omega) (by omega))) ?_
  refine hcons (kSub (isX rfl) (isZ (m := 2) rfl) (denX rfl) rfl (fI64 (by omega) (by omega))) ?_
  refine hcons (kCut (isX rfl) (.inr ⟨_, _, rfl, (isZ (m := 8) rfl)⟩) (.inr ⟨_, _, rfl, (isX rfl)⟩) (p := [u8 1, u8 (t), u8 (id / 256), u8 (id % 256), u8 ((((c.length : Int)) / 256) % 256), u8 (((c.length : Int)) % 256), u8 2, u8 0]) (m := c) (q := ([u8 0, u8 0] ++ more)) (by first | rfl | (simp only [List.append_assoc, List.cons_append, List.nil_append, List.append_nil]; done)) (by first | omega | (simp only [List.length_append, List.length_cons, List.length_nil, List.length_take, List.length_drop, Int.natCast_add] at *; omega)) (by first | omega | (simp only [List.length_append, List.length_cons, List.length_nil, List.length_take, List.length_drop, Int.natCast_add] at *; omega)) (denX rfl)) ?_
  refine hcons (kCut (isX rfl) (.inr ⟨_, _, rfl, (isX rfl)⟩) (.inl ⟨rfl, rfl⟩) (p := ([u8 1, u8 (t), u8 (id / 256), u8 (id % 256), u8 ((((c.length : Int)) / 256) % 256), u8 (((c.length : Int)) % 256), u8 2, u8 0] ++ (c ++ [u8 0, u8 0]))) (m := more) (q := ([] : List UInt8)) (by first | rfl | (simp only [List.append_assoc, List.cons_append, List.nil_append, List.append_nil]; done)) (by first | omega | (simp only [List.length_append, List.length_cons, List.length_nil, List.length_take, List.length_drop, Int.natCast_add] at *; omega)) (by first | omega | (simp only [List.length_append, List.length_cons, List.length_nil, List.length_take, List.length_drop, Int.natCast_add] at *; omega)) (denX rfl)) ?_
  refine hcons (kConvF (isX rfl) tu3 (denX rfl) (fI64 (by omega) (by omega))) ?_
  refine hcons (kRem (isX rfl) (isX rfl) (denX rfl) (by omega) (by omega) rfl) ?_
  refine hcons (kTake (isX rfl) (isX rfl) (by first | omega | (simp only [List.length_append, List.length_cons, List.length_nil, List.length_take, List.length_drop, Int.natCast_add] at *; omega)) (by first | omega | (simp only [List.length_append, List.length_cons, List.length_nil, List.length_take, List.length_drop, Int.natCast_add] at *; omega)) (denX rfl)) ?_
  refine hcons (kNeS (isX rfl) (isSx (l := ([] : List UInt8)) 0 0 rfl) (bnF (by first | exact nilT (by first | omega | (simp only [List.length_append, List.length_cons, List.length_nil, List.length_take, List.length_drop, Int.natCast_add] at *; omega)) | exact nilF (by first | omega | (simp only [List.length_append, List.length_cons, List.length_nil, List.length_take, List.length_drop, Int.natCast_add] at *; omega)) | exact nilT' (by first | omega | (simp only [List.length_append, List.length_cons, List.length_nil, List.length_take, List.length_drop, Int.natCast_add] at *; omega)) | exact nilF' (by first | omega | (simp only [List.length_append, List.length_cons, List.length_nil, List.length_take, List.length_drop, Int.natCast_add] at *; omega))))) ?_
  refine hcons (kLenE (isX rfl) (denX rfl) (by first | omega | (simp only [List.length_append, List.length_cons, List.length_nil, List.length_take, List.length_drop, Int.natCast_add] at *; omega))) ?_
  refine hcons (kLt (isX rfl) (isZ (m := 8) rfl) (decide_eq_true (by omega))) ?_
  refine hcons (kEqT (isX rfl) (isX rfl) tu3 (decide_eq_true (by omega))) ?_
  refine hcons (kEqT (isX rfl) (isX rfl) tu3 (decide_eq_true (by omega))) ?_
  refine hcons (kEqTS (isX rfl) (isX rfl) tu9 (decide_eq_true rfl)) ?_
  refine hcons (kEqS (isX rfl) (isX rfl) (decide_eq_true rfl)) ?_
  exact hnil
theorem path18 (t : Int) (id : Int) (c : List UInt8) (more : List UInt8) (cut : Int) (b0 : 0 ≤ t) (b1 : t ≤ 255) (b2 : 0 ≤ id) (b3 : id ≤ 65535) (b4 : c.length ≤ 9223372036854775807) (b5 : more.length ≤ 9223372036854775807) (b6 : 0 ≤ cut) (b7 : cut ≤ 65535) (h0 : ¬ (2000 < (c.length : Int))) (h1 : ¬ (200 < (more.length : Int))) (h2 : ¬ (t = 0)) (h3 : ¬ ((-(max ((c.length : Int)) 0)) % 8 = 0)) (h4 : ¬ ((-(max ((c.length : Int)) 0)) % 8 = 1)) (h5 : (-(max ((c.length : Int)) 0)) % 8 = 2) (h17 : (cut % ((c.length : Int) + 10)) = 0) (w : World) (hl : laidE w) : Calls Try.prog 3 #[.int .u8 t, .int .u16 id, St' c, .bool true, St' more, .int .u16 cut] w fun e w' => e = .returned (.bool true) ∧ Go.AX.Below w.heap.size w w' := by
  obtain ⟨fi, hfi, hb⟩ : ∃ fi, tabk.fn.get 3 = some fi ∧ fi.body.isSome = true := ⟨_, rfl, by kernel_rfl⟩
  exact runP (tb := tab18) ((tabkOk (nuL (nu18 t id c more cut)) (one18 t id c more cut)).hyps (hyOk18 t id c more cut b0 b1 b2 b3 b4 b5 b6 b7 h0 h1 h2 h3 h4 h5 h17)) rfl hfi hb (run18 ) (args := [.int .u8 t, .int .u16 id, St' c, .bool true, St' more, .int .u16 cut]) (by simp only [RelL, Rel]; exact ⟨_, _, rfl, rfl, ⟨_, _, rfl, rfl, ⟨_, _, rfl, rfl, ⟨_, _, rfl, rfl, ⟨_, _, rfl, rfl, ⟨_, _, rfl, rfl, rfl⟩⟩⟩⟩⟩⟩) w hl
def hy19 : List (HK × AV) := [(.len (.x 2), .x 5),
  (.bin .gtr (.x 5) (.i .i64 (.ofNat 2000)), .b false),
  (.len (.x 3), .x 6),
  (.bin .gtr (.x 6) (.i .i64 (.ofNat 200)), .b false),
  (.bin .eql (.x 0) (.i .u8 (.ofNat 0)), .b false),
  (.conv 3 (.x 0), .x 7),
  (.conv 3 (.x 1), .x 8),
  (.mm true (.x 5) (.i .i64 (.ofNat 0)), .x 9),
  (.un .neg (.x 9), .x 10),
  (.bin .and (.x 10) (.i .i64 (.ofNat 7)), .i .i64 (.ofNat 2)),
  (.bin .geq (.x 7) (.i .i64 (.ofNat 1)), .b true),
  (.bin .leq (.x 7) (.i .i64 (.ofNat 255)), .b true),
  (.bin .geq (.x 8) (.i .i64 (.ofNat 0)), .b true),
  (.bin .leq (.x 8) (.i .i64 (.ofNat 65535)), .b true),
  (.bin .leq (.x 5) (.i .i64 (.ofNat 65535)), .b true),
  (.conv 5 (.x 7), .x 11),
  (.bin .shr (.x 8) (.i .u64 (.ofNat 8)), .x 12),
  (.conv 5 (.x 12), .x 13),
  (.conv 5 (.x 8), .x 14),
  (.bin .shr (.x 5) (.i .u64 (.ofNat 8)), .x 15),
  (.conv 5 (.x 15), .x 16),
  (.conv 5 (.x 5), .x 17),
  (.bytes [.i .u8 (.ofNat 1), .x 11, .x 13, .x 14, .x 16, .x 17, .i .u8 (.ofNat 2), .i .u8 (.ofNat 0)], .x 18),
  (.bin .add (.x 18) (.x 2), .x 19),
  (.bin .add (.x 19) (.s 2 0), .x 20),
  (.len (.x 20), .x 21),
  (.bin .lss (.x 21) (.i .i64 (.ofNat 8)), .b false),
  (.bin .rem (.x 21) (.i .i64 (.ofNat 8)), .x 22),
  (.bin .neq (.x 22) (.i .i64 (.ofNat 0)), .b false),
  (.bin .add (.x 20) (.x 3), .x 23),
  (.bin .neq (.x 23) (.s 0 0), .b true),
  (.idx (.x 23) (.i .i64 (.ofNat 0)), .i .u8 (.ofNat 1)),
  (.len (.x 23), .x 24),
  (.bin .lss (.x 24) (.i .i64 (.ofNat 8)), .b false),
  (.idx (.x 23) (.i .i64 (.ofNat 4)), .x 25),
  (.conv 3 (.x 25), .x 26),
  (.bin .shl (.x 26) (.i .u64 (.ofNat 8)), .x 27),
  (.bin .add (.i .i64 (.ofNat 8)) (.x 27), .x 28),
  (.idx (.x 23) (.i .i64 (.ofNat 5)), .x 29),
  (.conv 3 (.x 29), .x 30),
  (.bin .add (.x 28) (.x 30), .x 31),
  (.idx (.x 23) (.i .i64 (.ofNat 6)), .i .u8 (.ofNat 2)),
  (.bin .add (.x 31) (.i .i64 (.ofNat 2)), .x 32),
  (.bin .lss (.x 24) (.x 32), .b false),
  (.idx (.x 23) (.i .i64 (.ofNat 1)), .x 33),
  (.bin .eql (.x 33) (.i .u8 (.ofNat 0)), .b false),
  (.conv 3 (.x 33), .x 34),
  (.idx (.x 23) (.i .i64 (.ofNat 2)), .x 35),
  (.conv 3 (.x 35), .x 36),
  (.bin .shl (.x 36) (.i .u64 (.ofNat 8)), .x 37),
  (.idx (.x 23) (.i .i64 (.ofNat 3)), .x 38),
  (.conv 3 (.x 38), .x 39),
  (.bin .or (.x 37) (.x 39), .x 40),
  (.bin .sub (.x 32) (.i .i64 (.ofNat 2)), .x 41),
  (.sub (.x 23) (some (.i .i64 (.ofNat 8))) (some (.x 41)), .x 42),
  (.sub (.x 23) (some (.x 32)) none, .x 43),
  (.conv 3 (.x 4), .x 44),
  (.bin .rem (.x 44) (.x 21), .x 45),
  (.sub (.x 20) none (some (.x 45)), .x 46),
  (.bin .neq (.x 46) (.s 0 0), .b true),
  (.idx (.x 46) (.i .i64 (.ofNat 0)), .i .u8 (.ofNat 1)),
  (.len (.x 46), .x 47),
  (.bin .lss (.x 47) (.i .i64 (.ofNat 8)), .b true),
  (.eq 3 (.x 34) (.x 7), .b true),
  (.eq 3 (.x 40) (.x 8), .b true),
  (.eq 9 (.x 42) (.x 2), .b true),
  (.bin .eql (.x 43) (.x 3), .b true)]
noncomputable def tab19 : Tab := { tabk with hyp := hy19 }
theorem run19 : okB (call tab19 9000 3 [.x 0, .x 1, .x 2, .b true, .x 3, .x 4] ⟨H0 , 1, 0, 0⟩) = true := by kernel_rfl
def nu19 (t : Int) (id : Int) (c : List UInt8) (more : List UInt8) (cut : Int) : List Value := [.int .u8 (t),
  .int .u16 (id),
  St' c,
  St' more,
  .int .u16 (cut),
  .int .i64 ((c.length : Int)),
  .int .i64 ((more.length : Int)),
  .int .i64 (t),
  .int .i64 (id),
  .int .i64 (max ((c.length : Int)) 0),
  .int .i64 (-(max ((c.length : Int)) 0)),
  .int .u8 (t),
  .int .i64 (id / 256),
  .int .u8 (id / 256),
  .int .u8 (id % 256),
  .int .i64 (((c.length : Int)) / 256),
  .int .u8 ((((c.length : Int)) / 256) % 256),
  .int .u8 (((c.length : Int)) % 256),
  St' ([u8 1, u8 (t), u8 (id / 256), u8 (id % 256), u8 ((((c.length : Int)) / 256) % 256), u8 (((c.length : Int)) % 256), u8 2, u8 0]),
  St' (([u8 1, u8 (t), u8 (id / 256), u8 (id % 256), u8 ((((c.length : Int)) / 256) % 256), u8 (((c.length : Int)) % 256), u8 2, u8 0] ++ c)),
  St' (([u8 1, u8 (t), u8 (id / 256), u8 (id % 256), u8 ((((c.length : Int)) / 256) % 256), u8 (((c.length : Int)) % 256), u8 2, u8 0] ++ (c ++ [u8 0, u8 0]))),
  .int .i64 ((c.length : Int) + 10),
  .int .i64 (((c.length : Int) + 10) % 8),
  St' (([u8 1, u8 (t), u8 (id / 256), u8 (id % 256), u8 ((((c.length : Int)) / 256) % 256), u8 (((c.length : Int)) % 256), u8 2, u8 0] ++ (c ++ ([u8 0, u8 0] ++ more)))),
  .int .i64 ((c.length : Int) + (more.length : Int) + 10),
  .int .u8 ((((c.length : Int)) / 256) % 256),
  .int .i64 ((((c.length : Int)) / 256) % 256),
  .int .i64 (((((c.length : Int)) / 256) % 256) * 256),
  .int .i64 (8 + (((((c.length : Int)) / 256) % 256) * 256)),
  .int .u8 (((c.length : Int)) % 256),
  .int .i64 (((c.length : Int)) % 256),
  .int .i64 ((8 + (((((c.length : Int)) / 256) % 256) * 256)) + (((c.length : Int)) % 256)),
  .int .i64 (((8 + (((((c.length : Int)) / 256) % 256) * 256)) + (((c.length : Int)) % 256)) + 2),
  .int .u8 (t),
  .int .i64 (t),
  .int .u8 (id / 256),
  .int .i64 (id / 256),
  .int .i64 ((id / 256) * 256),
  .int .u8 (id % 256),
  .int .i64 (id % 256),
  .int .i64 (((id / 256) * 256) + (id % 256)),
  .int .i64 ((((8 + (((((c.length : Int)) / 256) % 256) * 256)) + (((c.length : Int)) % 256)) + 2) - 2),
  St' c,
  St' more,
  .int .i64 (cut),
  .int .i64 (cut % ((c.length : Int) + 10)),
  St' ((List.take (cut % ((c.length : Int) + 10)).toNat (([u8 1, u8 (t), u8 (id / 256), u8 (id % 256), u8 ((((c.length : Int)) / 256) % 256), u8 (((c.length : Int)) % 256), u8 2, u8 0] ++ (c ++ [u8 0, u8 0]))))),
  .int .i64 ((cut % ((c.length : Int) + 10)))]
theorem one19 (t : Int) (id : Int) (c : List UInt8) (more : List UInt8) (cut : Int) : ∀ j, (nuL (nu19 t id c more cut) j).oneCell' = true := nuL_one (l := nu19 t id c more cut) rfl
set_option maxHeartbeats 2000000 in
theorem hyOk19 (t : Int) (id : Int) (c : List UInt8) (more : List UInt8) (cut : Int) (b0 : 0 ≤ t) (b1 : t ≤ 255) (b2 : 0 ≤ id) (b3 : id ≤ 65535) (b4 : c.length ≤ 9223372036854775807) (b5 : more.length ≤ 9223372036854775807) (b6 : 0 ≤ cut) (b7 : cut ≤ 65535) (h0 : ¬ (2000 < (c.length : Int))) (h1 : ¬ (200 < (more.length : Int))) (h2 : ¬ (t = 0)) (h3 : ¬ ((-(max ((c.length : Int)) 0)) % 8 = 0)) (h4 : ¬ ((-(max ((c.length : Int)) 0)) % 8 = 1)) (h5 : (-(max ((c.length : Int)) 0)) % 8 = 2) (h17 : ¬ ((cut % ((c.length : Int) + 10)) = 0)) (h18 : (cut % ((c.length : Int) + 10)) < 8) : ∀ k r, (k, r) ∈ hy19 → HOk (cx (nuL (nu19 t id c more cut)) (one19 t id c more cut) 0 laidE laidE_stab) k r := by
  have := Int.emod_nonneg cut (show ((c.length : Int) + 10) ≠ 0 by omega); have := Int.emod_lt_of_pos cut (show 0 < ((c.length : Int) + 10) by omega)
  unfold hy19
  refine hcons (kLenE (isX rfl) (denX rfl) (by first | omega | (simp only [List.length_append, List.length_cons, List.length_nil, List.length_take, List.length_drop, Int.natCast_add] at *; omega))) ?_
  refine hcons (kGt (isX rfl) (isZ (m := 2000) rfl) (decide_eq_false (by omega))) ?_
  refine hcons (kLenE (isX rfl) (denX rfl) (by first | omega | (simp only [List.length_append, List.length_cons, List.length_nil, List.length_take, List.length_drop, Int.natCast_add] at *; omega))) ?_
  refine hcons (kGt (isX rfl) (isZ (m := 200) rfl) (decide_eq_false (by omega))) ?_
  refine hcons (kEqI (isX rfl) (isZ (m := 0) rfl) (decide_eq_false (by omega))) ?_
  refine hcons (kConvF (isX rfl) tu3 (denX rfl) (fI64 (by omega) (by omega))) ?_
  refine hcons (kConvF (isX rfl) tu3 (denX rfl) (fI64 (by omega) (by omega))) ?_
  refine hcons (kMax (isX rfl) (isZ (m := 0) rfl) (denX rfl) rfl) ?_
  refine hcons (kNeg (isX rfl) (denX rfl) rfl (fI64 (by omega) (by omega))) ?_
  refine hcons (kAndG 3 8 rfl (by decide) (isX rfl) (isZ (m := 7) rfl) (denZ (m := 2) rfl) (fI64 (by omega) (by omega)) rfl (by omega) (fI64 (by omega) (by omega))) ?_
  refine hcons (kGe (isX rfl) (isZ (m := 1) rfl) (decide_eq_true (by omega))) ?_
  refine hcons (kLe (isX rfl) (isZ (m := 255) rfl) (decide_eq_true (by omega))) ?_
  refine hcons (kGe (isX rfl) (isZ (m := 0) rfl) (decide_eq_true (by omega))) ?_
  refine hcons (kLe (isX rfl) (isZ (m := 65535) rfl) (decide_eq_true (by omega))) ?_
  refine hcons (kLe (isX rfl) (isZ (m := 65535) rfl) (decide_eq_true (by omega))) ?_
  refine hcons (kConvF (isX rfl) tu5 (denX rfl) (fU8 (by omega) (by omega))) ?_
  refine hcons (kShrM 8 256 rfl (isX rfl) (isZ (m := 8) rfl) (denX rfl) rfl (by decide) (by omega) rfl) ?_
  refine hcons (kConvF (isX rfl) tu5 (denX rfl) (fU8 (by omega) (by omega))) ?_
  refine hcons (kConv8 (isX rfl) tu5 (denX rfl) rfl) ?_
  refine hcons (kShrM 8 256 rfl (isX rfl) (isZ (m := 8) rfl) (denX rfl) rfl (by decide) (by omega) rfl) ?_
  refine hcons (kConv8 (isX rfl) tu5 (denX rfl) rfl) ?_
  refine hcons (kConv8 (isX rfl) tu5 (denX rfl) rfl) ?_
  refine hcons (kBytesB (bs := [u8 1, u8 (t), u8 (id / 256), u8 (id % 256), u8 ((((c.length : Int)) / 256) % 256), u8 (((c.length : Int)) % 256), u8 2, u8 0]) (.cons (isB8 (isZ (m := 1) rfl) (by omega) (by omega)) (.cons (isB8 (isX rfl) (by omega) (by omega)) (.cons (isB8 (isX rfl) (by omega) (by omega)) (.cons (isB8 (isX rfl) (by omega) (by omega)) (.cons (isB8 (isX rfl) (by omega) (by omega)) (.cons (isB8 (isX rfl) (by omega) (by omega)) (.cons (isB8 (isZ (m := 2) rfl) (by omega) (by omega)) (.cons (isB8 (isZ (m := 0) rfl) (by omega) (by omega)) .nil)))))))) (denX rfl)) ?_
  refine hcons (kCat (isX rfl) (isX rfl) (denX rfl) (by first | rfl | (simp only [List.append_assoc, List.cons_append, List.nil_append, List.append_nil]; done)) (by first | omega | (simp only [List.length_append, List.length_cons, List.length_nil, List.length_take, List.length_drop, Int.natCast_add] at *; omega))) ?_
  refine hcons (kCat (isX rfl) (isSx (l := [u8 0, u8 0]) 2 0 rfl) (denX rfl) (by first | rfl | (simp only [List.append_assoc, List.cons_append, List.nil_append, List.append_nil]; done)) (by first | omega | (simp only [List.length_append, List.length_cons, List.length_nil, List.length_take, List.length_drop, Int.natCast_add] at *; omega))) ?_
  refine hcons (kLenE (isX rfl) (denX rfl) (by first | omega | (simp only [List.length_append, List.length_cons, List.length_nil, List.length_take, List.length_drop, Int.natCast_add] at *; omega))) ?_
  refine hcons (kLt (isX rfl) (isZ (m := 8) rfl) (decide_eq_false (by omega))) ?_
  refine hcons (kRem (isX rfl) (isZ (m := 8) rfl) (denX rfl) (by omega) (by omega) rfl) ?_
  refine hcons (kNeI (isX rfl) (isZ (m := 0) rfl) (neF (by omega))) ?_
  refine hcons (kCat (isX rfl) (isX rfl) (denX rfl) (by first | rfl | (simp only [List.append_assoc, List.cons_append, List.nil_append, List.append_nil]; done)) (by first | omega | (simp only [List.length_append, List.length_cons, List.length_nil, List.length_take, List.length_drop, Int.natCast_add] at *; omega))) ?_
  refine hcons (kNeS (isX rfl) (isSx (l := ([] : List UInt8)) 0 0 rfl) (bnT (by first | exact nilT (by first | omega | (simp only [List.length_append, List.length_cons, List.length_nil, List.length_take, List.length_drop, Int.natCast_add] at *; omega)) | exact nilF (by first | omega | (simp only [List.length_append, List.length_cons, List.length_nil, List.length_take, List.length_drop, Int.natCast_add] at *; omega)) | exact nilT' (by first | omega | (simp only [List.length_append, List.length_cons, List.length_nil, List.length_take, List.length_drop, Int.natCast_add] at *; omega)) | exact nilF' (by first | omega | (simp only [List.length_append, List.length_cons, List.length_nil, List.length_take, List.length_drop, Int.natCast_add] at *; omega))))) ?_
  refine hcons (kIdxE (i := 0) (isX rfl) (isZ (m := 0) rfl) (denZ (m := 1) rfl) rfl (by first | omega | (simp only [List.length_append, List.length_cons, List.length_nil, List.length_take, List.length_drop, Int.natCast_add] at *; omega)) (bt_at rfl (by omega) (by omega))) ?_
  refine hcons (kLenE (isX rfl) (denX rfl) (by first | omega | (simp only [List.length_append, List.length_cons, List.length_nil, List.length_take, List.length_drop, Int.natCast_add] at *; omega))) ?_
  refine hcons (kLt (isX rfl) (isZ (m := 8) rfl) (decide_eq_false (by omega))) ?_
  refine hcons (kIdxE (i := 4) (isX rfl) (isZ (m := 4) rfl) (denX rfl) rfl (by first | omega | (simp only [List.length_append, List.length_cons, List.length_nil, List.length_take, List.length_drop, Int.natCast_add] at *; omega)) (bt_at rfl (by omega) (by omega))) ?_
  refine hcons (kConvF (isX rfl) tu3 (denX rfl) (fI64 (by omega) (by omega))) ?_
  refine hcons (kShlM 8 256 rfl (isX rfl) (isZ (m := 8) rfl) (denX rfl) rfl (by decide) rfl (fI64 (by omega) (by omega))) ?_
  refine hcons (kAdd (isZ (m := 8) rfl) (isX rfl) (denX rfl) rfl (fI64 (by omega) (by omega))) ?_
  refine hcons (kIdxE (i := 5) (isX rfl) (isZ (m := 5) rfl) (denX rfl) rfl (by first | omega | (simp only [List.length_append, List.length_cons, List.length_nil, List.length_take, List.length_drop, Int.natCast_add] at *; omega)) (bt_at rfl (by omega) (by omega))) ?_
  refine hcons (kConvF (isX rfl) tu3 (denX rfl) (fI64 (by omega) (by omega))) ?_
  refine hcons (kAdd (isX rfl) (isX rfl) (denX rfl) rfl (fI64 (by omega) (by omega))) ?_
  refine hcons (kIdxE (i := 6) (isX rfl) (isZ (m := 6) rfl) (denZ (m := 2) rfl) rfl (by first | omega | (simp only [List.length_append, List.length_cons, List.length_nil, List.length_take, List.length_drop, Int.natCast_add] at *; omega)) (bt_at rfl (by omega) (by omega))) ?_
  refine hcons (kAdd (isX rfl) (isZ (m := 2) rfl) (denX rfl) rfl (fI64 (by omega) (by omega))) ?_
  refine hcons (kLt (isX rfl) (isX rfl) (decide_eq_false (by omega))) ?_
  refine hcons (kIdxE (i := 1) (isX rfl) (isZ (m := 1) rfl) (denX rfl) rfl (by first | omega | (simp only [List.length_append, List.length_cons, List.length_nil, List.length_take, List.length_drop, Int.natCast_add] at *; omega)) (bt_at rfl (by omega) (by omega))) ?_
  refine hcons (kEqI (isX rfl) (isZ (m := 0) rfl) (decide_eq_false (by omega))) ?_
  refine hcons (kConvF (isX rfl) tu3 (denX rfl) (fI64 (by omega) (by omega))) ?_
  refine hcons (kIdxE (i := 2) (isX rfl) (isZ (m := 2) rfl) (denX rfl) rfl (by first | omega | (simp only [List.length_append, List.length_cons, List.length_nil, List.length_take, List.length_drop, Int.natCast_add] at *; omega)) (bt_at rfl (by omega) (by omega))) ?_
  refine hcons (kConvF (isX rfl) tu3 (denX rfl) (fI64 (by omega) (by omega))) ?_
  refine hcons (kShlM 8 256 rfl (isX rfl) (isZ (m := 8) rfl) (denX rfl) rfl (by decide) rfl (fI64 (by omega) (by omega))) ?_
  refine hcons (kIdxE (i := 3) (isX rfl) (isZ (m := 3) rfl) (denX rfl) rfl (by first | omega | (simp only [List.length_append, List.length_cons, List.length_nil, List.length_take, List.length_drop, Int.natCast_add] at *; omega)) (bt_at rfl (by omega) (by omega))) ?_
  refine hcons (kConvF (isX rfl) tu3 (denX rfl) (fI64 (by omega) (by omega))) ?_
  refine hcons (kOrM 8 256 rfl (isX rfl) (isX rfl) (denX rfl) (by omega) (by omega) (fI64 (by omega) (by omega)) (fI64 (by omega) (by omega)) (by omega) (by omega) rfl (fI64 (by omega) (by omega))) ?_
  refine hcons (kSub (isX rfl) (isZ (m := 2) rfl) (denX rfl) rfl (fI64 (by omega) (by omega))) ?_
  refine hcons (kCut (isX rfl) (.inr ⟨_, _, rfl, (isZ (m := 8) rfl)⟩) (.inr ⟨_, _, rfl, (isX rfl)⟩) (p := [u8 1, u8 (t), u8 (id / 256), u8 (id % 256), u8 ((((c.length : Int)) / 256) % 256), u8 (((c.length : Int)) % 256), u8 2, u8 0]) (m := c) (q := ([u8 0, u8 0] ++ more)) (by first | rfl | (simp only [List.append_assoc, List.cons_append, List.nil_append, List.append_nil]; done)) (by first | omega | (simp only [List.length_append, List.length_cons, List.length_nil, List.length_take, List.length_drop, Int.natCast_add] at *; omega)) (by first | omega | (simp only [List.length_append, List.length_cons, List.length_nil, List.length_take, List.length_drop, Int.natCast_add] at *; omega)) (denX rfl)) ?_
  refine hcons (kCut (isX rfl) (.inr ⟨_, _, rfl, (isX rfl)⟩) (.inl ⟨rfl, rfl⟩) (p := ([u8 1, u8 (t), u8 (id / 256), u8 (id % 256), u8 ((((c.length : Int)) / 256) % 256), u8 (((c.length : Int)) % 256), u8 2, u8 0] ++ (c ++ [u8 0, u8 0]))) (m := more) (q := ([] : List UInt8)) (by first | rfl | (simp only [List.append_assoc, List.cons_append, List.nil_append, List.append_nil]; done)) (by first | omega | (simp only [List.length_append, List.length_cons, List.length_nil, List.length_take, List.length_drop, Int.natCast_add] at *; omega)) (by first | omega | (simp only [List.length_append, List.length_cons, List.length_nil, List.length_take, List.length_drop, Int.natCast_add] at *; omega)) (denX rfl)) ?_
  refine hcons (kConvF (isX rfl) tu3 (denX rfl) (fI64 (by omega) (by omega))) ?_
  refine hcons (kRem (isX rfl) (isX rfl) (denX rfl) (by omega) (by omega) rfl) ?_
  refine hcons (kTake (isX rfl) (isX rfl) (by first | omega | (simp only [List.length_append, List.length_cons, List.length_nil, List.length_take, List.length_drop, Int.natCast_add] at *; omega)) (by first | omega | (simp only [List.length_append, List.length_cons, List.length_nil, List.length_take, List.length_drop, Int.natCast_add] at *; omega)) (denX rfl)) ?_
  refine hcons (kNeS (isX rfl) (isSx (l := ([] : List UInt8)) 0 0 rfl) (bnT (by first | exact nilT (by first | omega | (simp only [List.length_append, List.length_cons, List.length_nil, List.length_take, List.length_drop, Int.natCast_add] at *; omega)) | exact nilF (by first | omega | (simp only [List.length_append, List.length_cons, List.length_nil, List.length_take, List.length_drop, Int.natCast_add] at *; omega)) | exact nilT' (by first | omega | (simp only [List.length_append, List.length_cons, List.length_nil, List.length_take, List.length_drop, Int.natCast_add] at *; omega)) | exact nilF' (by first | omega | (simp only [List.length_append, List.length_cons, List.length_nil, List.length_take, List.length_drop, Int.natCast_add] at *; omega))))) ?_
  refine hcons (kIdxE (i := 0) (isX rfl) (isZ (m := 0) rfl) (denZ (m := 1) rfl) rfl (by first | omega | (simp only [List.length_append, List.length_cons, List.length_nil, List.length_take, List.length_drop, Int.natCast_add] at *; omega)) ((bt_take (by omega)).trans (bt_at rfl (by omega) (by omega)))) ?_
  refine hcons (kLenE (isX rfl) (denX rfl) (by first | omega | (simp only [List.length_append, List.length_cons, List.length_nil, List.length_take, List.length_drop, Int.natCast_add] at *; omega))) ?_
  refine hcons (kLt (isX rfl) (isZ (m := 8) rfl) (decide_eq_true (by omega))) ?_
  refine hcons (kEqT (isX rfl) (isX rfl) tu3 (decide_eq_true (by omega))) ?_
  refine hcons (kEqT (isX rfl) (isX rfl) tu3 (decide_eq_true (by omega))) ?_
  refine hcons (kEqTS (isX rfl) (isX rfl) tu9 (decide_eq_true rfl)) ?_
  refine hcons (kEqS (isX rfl) (isX rfl) (decide_eq_true rfl)) ?_
  exact hnil
theorem path19 (t : Int) (id : Int) (c : List UInt8) (more : List UInt8) (cut : Int) (b0 : 0 ≤ t) (b1 : t ≤ 255) (b2 : 0 ≤ id) (b3 : id ≤ 65535) (b4 : c.length ≤ 9223372036854775807) (b5 : more.length ≤ 9223372036854775807) (b6 : 0 ≤ cut) (b7 : cut ≤ 65535) (h0 : ¬ (2000 < (c.length : Int))) (h1 : ¬ (200 < (more.length : Int))) (h2 : ¬ (t = 0)) (h3 : ¬ ((-(max ((c.length : Int)) 0)) % 8 = 0)) (h4 : ¬ ((-(max ((c.length : Int)) 0)) % 8 = 1)) (h5 : (-(max ((c.length : Int)) 0)) % 8 = 2) (h17 : ¬ ((cut % ((c.length : Int) + 10)) = 0)) (h18 : (cut % ((c.length : Int) + 10)) < 8) (w : World) (hl : laidE w) : Calls Try.prog 3 #[.int .u8 t, .int .u16 id, St' c, .bool true, St' more, .int .u16 cut] w fun e w' => e = .returned (.bool true) ∧ Go.AX.Below w.heap.size w w' := by
  obtain ⟨fi, hfi, hb⟩ : ∃ fi, tabk.fn.get 3 = some fi ∧ fi.body.isSome = true := ⟨_, rfl, by kernel_rfl⟩
  exact runP (tb := tab19) ((tabkOk (nuL (nu19 t id c more cut)) (one19 t id c more cut)).hyps (hyOk19 t id c more cut b0 b1 b2 b3 b4 b5 b6 b7 h0 h1 h2 h3 h4 h5 h17 h18)) rfl hfi hb (run19 ) (args := [.int .u8 t, .int .u16 id, St' c, .bool true, St' more, .int .u16 cut]) (by simp only [RelL, Rel]; exact ⟨_, _, rfl, rfl, ⟨_, _, rfl, rfl, ⟨_, _, rfl, rfl, ⟨_, _, rfl, rfl, ⟨_, _, rfl, rfl, ⟨_, _, rfl, rfl, rfl⟩⟩⟩⟩⟩⟩) w hl
def hy20 : List (HK × AV) := [(.len (.x 2), .x 5),
  (.bin .gtr (.x 5) (.i .i64 (.ofNat 2000)), .b false),
  (.len (.x 3), .x 6),
  (.bin .gtr (.x 6) (.i .i64 (.ofNat 200)), .b false),
  (.bin .eql (.x 0) (.i .u8 (.ofNat 0)), .b false),
  (.conv 3 (.x 0), .x 7),
  (.conv 3 (.x 1), .x 8),
  (.mm true (.x 5) (.i .i64 (.ofNat 0)), .x 9),
  (.un .neg (.x 9), .x 10),
  (.bin .and (.x 10) (.i .i64 (.ofNat 7)), .i .i64 (.ofNat 2)),
  (.bin .geq (.x 7) (.i .i64 (.ofNat 1)), .b true),
  (.bin .leq (.x 7) (.i .i64 (.ofNat 255)), .b true),
  (.bin .geq (.x 8) (.i .i64 (.ofNat 0)), .b true),
  (.bin .leq (.x 8) (.i .i64 (.ofNat 65535)), .b true),
  (.bin .leq (.x 5) (.i .i64 (.ofNat 65535)), .b true),
  (.conv 5 (.x 7), .x 11),
  (.bin .shr (.x 8) (.i .u64 (.ofNat 8)), .x 12),
  (.conv 5 (.x 12), .x 13),
  (.conv 5 (.x 8), .x 14),
  (.bin .shr (.x 5) (.i .u64 (.ofNat 8)), .x 15),
  (.conv 5 (.x 15), .x 16),
  (.conv 5 (.x 5), .x 17),
  (.bytes [.i .u8 (.ofNat 1), .x 11, .x 13, .x 14, .x 16, .x 17, .i .u8 (.ofNat 2), .i .u8 (.ofNat 0)], .x 18),
  (.bin .add (.x 18) (.x 2), .x 19),
  (.bin .add (.x 19) (.s 2 0), .x 20),
  (.len (.x 20), .x 21),
  (.bin .lss (.x 21) (.i .i64 (.ofNat 8)), .b false),
  (.bin .rem (.x 21) (.i .i64 (.ofNat 8)), .x 22),
  (.bin .neq (.x 22) (.i .i64 (.ofNat 0)), .b false),
  (.bin .add (.x 20) (.x 3), .x 23),
  (.bin .neq (.x 23) (.s 0 0), .b true),
  (.idx (.x 23) (.i .i64 (.ofNat 0)), .i .u8 (.ofNat 1)),
  (.len (.x 23), .x 24),
  (.bin .lss (.x 24) (.i .i64 (.ofNat 8)), .b false),
  (.idx (.x 23) (.i .i64 (.ofNat 4)), .x 25),
  (.conv 3 (.x 25), .x 26),
  (.bin .shl (.x 26) (.i .u64 (.ofNat 8)), .x 27),
  (.bin .add (.i .i64 (.ofNat 8)) (.x 27), .x 28),
  (.idx (.x 23) (.i .i64 (.ofNat 5)), .x 29),
  (.conv 3 (.x 29), .x 30),
  (.bin .add (.x 28) (.x 30), .x 31),
  (.idx (.x 23) (.i .i64 (.ofNat 6)), .i .u8 (.ofNat 2)),
  (.bin .add (.x 31) (.i .i64 (.ofNat 2)), .x 32),
  (.bin .lss (.x 24) (.x 32), .b false),
  (.idx (.x 23) (.i .i64 (.ofNat 1)), .x 33),
  (.bin .eql (.x 33) (.i .u8 (.ofNat 0)), .b false),
  (.conv 3 (.x 33), .x 34),
  (.idx (.x 23) (.i .i64 (.ofNat 2)), .x 35),
  (.conv 3 (.x 35), .x 36),
  (.bin .shl (.x 36) (.i .u64 (.ofNat 8)), .x 37),
  (.idx (.x 23) (.i .i64 (.ofNat 3)), .x 38),
  (.conv 3 (.x 38), .x 39),
  (.bin .or (.x 37) (.x 39), .x 40),
  (.bin .sub (.x 32) (.i .i64 (.ofNat 2)), .x 41),
  (.sub (.x 23) (some (.i .i64 (.ofNat 8))) (some (.x 41)), .x 42),
  (.sub (.x 23) (some (.x 32)) none, .x 43),
  (.conv 3 (.x 4), .x 44),
  (.bin .rem (.x 44) (.x 21), .x 45),
  (.sub (.x 20) none (some (.x 45)), .x 46),
  (.bin .neq (.x 46) (.s 0 0), .b true),
  (.idx (.x 46) (.i .i64 (.ofNat 0)), .i .u8 (.ofNat 1)),
  (.len (.x 46), .x 47),
  (.bin .lss (.x 47) (.i .i64 (.ofNat 8)), .b false),
  (.idx (.x 46) (.i .i64 (.ofNat 4)), .x 48),
  (.conv 3 (.x 48), .x 49),
  (.bin .shl (.x 49) (.i .u64 (.ofNat 8)), .x 50),
  (.bin .add (.i .i64 (.ofNat 8)) (.x 50), .x 51),
  (.idx (.x 46) (.i .i64 (.ofNat 5)), .x 52),
  (.conv 3 (.x 52), .x 53),
  (.bin .add (.x 51) (.x 53), .x 54),
  (.idx (.x 46) (.i .i64 (.ofNat 6)), .i .u8 (.ofNat 2)),
  (.bin .add (.x 54) (.i .i64 (.ofNat 2)), .x 55),
  (.bin .lss (.x 47) (.x 55), .b true),
  (.eq 3 (.x 34) (.x 7), .b true),
  (.eq 3 (.x 40) (.x 8), .b true),
  (.eq 9 (.x 42) (.x 2), .b true),
  (.bin .eql (.x 43) (.x 3), .b true)]
noncomputable def tab20 : Tab := { tabk with hyp := hy20 }
theorem run20 : okB (call tab20 9000 3 [.x 0, .x 1, .x 2, .b true, .x 3, .x 4] ⟨H0 , 1, 0, 0⟩) = true := by kernel_rfl
def nu20 (t : Int) (id : Int) (c : List UInt8) (more : List UInt8) (cut : Int) : List Value := [.int .u8 (t),
  .int .u16 (id),
  St' c,
  St' more,
  .int .u16 (cut),
  .int .i64 ((c.length : Int)),
  .int .i64 ((more.length : Int)),
  .int .i64 (t),
  .int .i64 (id),
  .int .i64 (max ((c.length : Int)) 0),
  .int .i64 (-(max ((c.length : Int)) 0)),
  .int .u8 (t),
  .int .i64 (id / 256),
  .int .u8 (id / 256),
  .int .u8 (id % 256),
  .int .i64 (((c.length : Int)) / 256),
  .int .u8 ((((c.length : Int)) / 256) % 256),
  .int .u8 (((c.length : Int)) % 256),
  St' ([u8 1, u8 (t), u8 (id / 256), u8 (id % 256), u8 ((((c.length : Int)) / 256) % 256), u8 (((c.length : Int)) % 256), u8 2, u8 0]),
  St' (([u8 1, u8 (t), u8 (id / 256), u8 (id % 256), u8 ((((c.length : Int)) / 256) % 256), u8 (((c.length : Int)) % 256), u8 2, u8 0] ++ c)),
  St' (([u8 1, u8 (t), u8 (id / 256), u8 (id % 256), u8 ((((c.length : Int)) / 256) % 256), u8 (((c.length : Int)) % 256), u8 2, u8 0] ++ (c ++ [u8 0, u8 0]))),
  .int .i64 ((c.length : Int) + 10),
  .int .i64 (((c.length : Int) + 10) % 8),
  St' (([u8 1, u8 (t), u8 (id / 256), u8 (id % 256), u8 ((((c.length : Int)) / 256) % 256), u8 (((c.length : Int)) % 256), u8 2, u8 0] ++ (c ++ ([u8 0, u8 0] ++ more)))),
  .int .i64 ((c.length : Int) + (more.length : Int) + 10),
  .int .u8 ((((c.length : Int)) / 256) % 256),
  .int .i64 ((((c.length : Int)) / 256) % 256),
  .int .i64 (((((c.length : Int)) / 256) % 256) * 256),
  .int .i64 (8 + (((((c.length : Int)) / 256) % 256) * 256)),
  .int .u8 (((c.length : Int)) % 256),
  .int .i64 (((c.length : Int)) % 256),
  .int .i64 ((8 + (((((c.length : Int)) / 256) % 256) * 256)) + (((c.length : Int)) % 256)),
  .int .i64 (((8 + (((((c.length : Int)) / 256) % 256) * 256)) + (((c.length : Int)) % 256)) + 2),
  .int .u8 (t),
  .int .i64 (t),
  .int .u8 (id / 256),
  .int .i64 (id / 256),
  .int .i64 ((id / 256) * 256),
  .int .u8 (id % 256),
  .int .i64 (id % 256),
  .int .i64 (((id / 256) * 256) + (id % 256)),
  .int .i64 ((((8 + (((((c.length : Int)) / 256) % 256) * 256)) + (((c.length : Int)) % 256)) + 2) - 2),
  St' c,
  St' more,
  .int .i64 (cut),
  .int .i64 (cut % ((c.length : Int) + 10)),
  St' ((List.take (cut % ((c.length : Int) + 10)).toNat (([u8 1, u8 (t), u8 (id / 256), u8 (id % 256), u8 ((((c.length : Int)) / 256) % 256), u8 (((c.length : Int)) % 256), u8 2, u8 0] ++ (c ++ [u8 0, u8 0]))))),
  .int .i64 ((cut % ((c.length : Int) + 10))),
  .int .u8 ((((c.length : Int)) / 256) % 256),
  .int .i64 ((((c.length : Int)) / 256) % 256),
  .int .i64 (((((c.length : Int)) / 256) % 256) * 256),
  .int .i64 (8 + (((((c.length : Int)) / 256) % 256) * 256)),
  .int .u8 (((c.length : Int)) % 256),
  .int .i64 (((c.length : Int)) % 256),
  .int .i64 ((8 + (((((c.length : Int)) / 256) % 256) * 256)) + (((c.length : Int)) % 256)),
  .int .i64 (((8 + (((((c.length : Int)) / 256) % 256) * 256)) + (((c.length : Int)) % 256)) + 2)]
theorem one20 (t : Int) (id : Int) (c : List UInt8) (more : List UInt8) (cut : Int) : ∀ j, (nuL (nu20 t id c more cut) j).oneCell' = true := nuL_one (l := nu20 t id c more cut) rfl
set_option maxHeartbeats 2000000 in
theorem hyOk20 (t : Int) (id : Int) (c : List UInt8) (more : List UInt8) (cut : Int) (b0 : 0 ≤ t) (b1 : t ≤ 255) (b2 : 0 ≤ id) (b3 : id ≤ 65535) (b4 : c.length ≤ 9223372036854775807) (b5 : more.length ≤ 9223372036854775807) (b6 : 0 ≤ cut) (b7 : cut ≤ 65535) (h0 : ¬ (2000 < (c.length : Int))) (h1 : ¬ (200 < (more.length : Int))) (h2 : ¬ (t = 0)) (h3 : ¬ ((-(max ((c.length : Int)) 0)) % 8 = 0)) (h4 : ¬ ((-(max ((c.length : Int)) 0)) % 8 = 1)) (h5 : (-(max ((c.length : Int)) 0)) % 8 = 2) (h17 : ¬ ((cut % ((c.length : Int) + 10)) = 0)) (h18 : ¬ ((cut % ((c.length : Int) + 10)) < 8)) : ∀ k r, (k, r) ∈ hy20 → HOk (cx (nuL (nu20 t id c more cut)) (one20 t id c more cut) 0 laidE laidE_stab) k r := by
  have := Int.emod_nonneg cut (show ((c.length : Int) + 10) ≠ 0 by omega); have := Int.emod_lt_of_pos cut (show 0 < ((c.length : Int) + 10) by omega)
  unfold hy20
  refine hcons (kLenE (isX rfl) (denX rfl) (by first | omega | (simp only [List.length_append, List.length_cons, List.length_nil, List.length_take, List.length_drop, Int.natCast_add] at *; omega))) ?_
  refine hcons (kGt (isX rfl) (isZ (m := 2000) rfl) (decide_eq_false (by omega))) ?_
  refine hcons (kLenE (isX rfl) (denX rfl) (by first | omega | (simp only [List.length_append, List.length_cons, List.length_nil, List.length_take, List.length_drop, Int.natCast_add] at *; omega))) ?_
  refine hcons (kGt (isX rfl) (isZ (m := 200) rfl) (decide_eq_false (by omega))) ?_
  refine hcons (kEqI (isX rfl) (isZ (m := 0) rfl) (decide_eq_false (by omega))) ?_
  refine hcons (kConvF (isX rfl) tu3 (denX rfl) (fI64 (by omega) (by omega))) ?_
  refine hcons (kConvF (isX rfl) tu3 (denX rfl) (fI64 (by omega) (by omega))) ?_
  refine hcons (kMax (isX rfl) (isZ (m := 0) rfl) (denX rfl) rfl) ?_
  refine hcons (kNeg (isX rfl) (denX rfl) rfl (fI64 (by omega) (by omega))) ?_
  refine hcons (kAndG 3 8 rfl (by decide) (isX rfl) (isZ (m := 7) rfl) (denZ (m := 2) rfl) (fI64 (by omega) (by omega)) rfl (by omega) (fI64 (by omega) (by omega))) ?_
  refine hcons (kGe (isX rfl) (isZ (m := 1) rfl) (decide_eq_true (by omega))) ?_
  refine hcons (kLe (isX rfl) (isZ (m := 255) rfl) (decide_eq_true (by omega))) ?_
  refine hcons (kGe (isX rfl) (isZ (m := 0) rfl) (decide_eq_true (by omega))) ?_
  refine hcons (kLe (isX rfl) (isZ (m := 65535) rfl) (decide_eq_true (by omega))) ?_
  refine hcons (kLe (isX rfl) (isZ (m := 65535) rfl) (decide_eq_true (by omega))) ?_
  refine hcons (kConvF (isX rfl) tu5 (denX rfl) (fU8 (by omega) (by omega))) ?_
  refine hcons (kShrM 8 256 rfl (isX rfl) (isZ (m := 8) rfl) (denX rfl) rfl (by decide) (by omega) rfl) ?_
  refine hcons (kConvF (isX rfl) tu5 (denX rfl) (fU8 (by omega) (by omega))) ?_
  refine hcons (kConv8 (isX rfl) tu5 (denX rfl) rfl) ?_
  refine hcons (kShrM 8 256 rfl (isX rfl) (isZ (m := 8) rfl) (denX rfl) rfl (by decide) (by omega) rfl) ?_
  refine hcons (kConv8 (isX rfl) tu5 (denX rfl) rfl) ?_
  refine hcons (kConv8 (isX rfl) tu5 (denX rfl) rfl) ?_
  refine hcons (kBytesB (bs := [u8 1, u8 (t), u8 (id / 256), u8 (id % 256), u8 ((((c.length : Int)) / 256) % 256), u8 (((c.length : Int)) % 256), u8 2, u8 0]) (.cons (isB8 (isZ (m := 1) rfl) (by omega) (by omega)) (.cons (isB8 (isX rfl) (by omega) (by omega)) (.cons (isB8 (isX rfl) (by omega) (by omega)) (.cons (isB8 (isX rfl) (by omega) (by omega)) (.cons (isB8 (isX rfl) (by omega) (by omega)) (.cons (isB8 (isX rfl) (by omega) (by omega)) (.cons (isB8 (isZ (m := 2) rfl) (by omega) (by omega)) (.cons (isB8 (isZ (m := 0) rfl) (by omega) (by omega)) .nil)))))))) (denX rfl)) ?_
  refine hcons (kCat (isX rfl) (isX rfl) (denX rfl) (by first | rfl | (simp only [List.append_assoc, List.cons_append, List.nil_append, List.append_nil]; done)) (by first | omega | (simp only [List.length_append, List.length_cons, List.length_nil, List.length_take, List.length_drop, Int.natCast_add] at *; omega))) ?_
  refine hcons (kCat (isX rfl) (isSx (l := [u8 0, u8 0]) 2 0 rfl) (denX rfl) (by first | rfl | (simp only [List.append_assoc, List.cons_append, List.nil_append, List.append_nil]; done)) (by first | omega | (simp only [List.length_append, List.length_cons, List.length_nil, List.length_take, List.length_drop, Int.natCast_add] at *; omega))) ?_
  refine hcons (kLenE (isX rfl) (denX rfl) (by first | omega | (simp only [List.length_append, List.length_cons, List.length_nil, List.length_take, List.length_drop, Int.natCast_add] at *; omega))) ?_
  refine hcons (kLt (isX rfl) (isZ (m := 8) rfl) (decide_eq_false (by omega))) ?_
  refine hcons (kRem (isX rfl) (isZ (m := 8) rfl) (denX rfl) (by omega) (by omega) rfl) ?_
  refine hcons (kNeI (isX rfl) (isZ (m := 0) rfl) (neF (by omega))) ?_
  refine hcons (kCat (isX rfl) (isX rfl) (denX rfl) (by first | rfl | (simp only [List.append_assoc, List.cons_append, List.nil_append, List.append_nil]; done)) (by first | omega | (simp only [List.length_append, List.length_cons, List.length_nil, List.length_take, List.length_drop, Int.natCast_add] at *; omega))) ?_
  refine hcons (kNeS (isX rfl) (isSx (l := ([] : List UInt8)) 0 0 rfl) (bnT (by first | exact nilT (by first | omega | (simp only [List.length_append, List.length_cons, List.length_nil, List.length_take, List.length_drop, Int.natCast_add] at *; omega)) | exact nilF (by first | omega | (simp only [List.length_append, List.length_cons, List.length_nil, List.length_take, List.length_drop, Int.natCast_add] at *; omega)) | exact nilT' (by first | omega | (simp only [List.length_append, List.length_cons, List.length_nil, List.length_take, List.length_drop, Int.natCast_add] at *; omega)) | exact nilF' (by first | omega | (simp only [List.length_append, List.length_cons, List.length_nil, List.length_take, List.length_drop, Int.natCast_add] at *; omega))))) ?_
  refine hcons (kIdxE (i := 0) (isX rfl) (isZ (m := 0) rfl) (denZ (m := 1) rfl) rfl (by first | omega | (simp only [List.length_append, List.length_cons, List.length_nil, List.length_take, List.length_drop, Int.natCast_add] at *; omega)) (bt_at rfl (by omega) (by omega))) ?_
  refine hcons (kLenE (isX rfl) (denX rfl) (by first | omega | (simp only [List.length_append, List.length_cons, List.length_nil, List.length_take, List.length_drop, Int.natCast_add] at *; omega))) ?_
  refine hcons (kLt (isX rfl) (isZ (m := 8) rfl) (decide_eq_false (by omega))) ?_
  refine hcons (kIdxE (i := 4) (isX rfl) (isZ (m := 4) rfl) (denX rfl) rfl (by first | omega | (simp only [List.length_append, List.length_cons, List.length_nil, List.length_take, List.length_drop, Int.natCast_add] at *; omega)) (bt_at rfl (by omega) (by omega))) ?_
  refine hcons (kConvF (isX rfl) tu3 (denX rfl) (fI64 (by omega) (by omega))) ?_
  refine hcons (kShlM 8 256 rfl (isX rfl) (isZ (m := 8) rfl) (denX rfl) rfl (by decide) rfl (fI64 (by omega) (by omega))) ?_
  refine hcons (kAdd (isZ (m := 8) rfl) (isX rfl) (denX rfl) rfl (fI64 (by omega) (by omega))) ?_
  refine hcons (kIdxE (i := 5) (isX rfl) (isZ (m := 5) rfl) (denX rfl) rfl (by first | omega | (simp only [List.length_append, List.length_cons, List.length_nil, List.length_take, List.length_drop, Int.natCast_add] at *; omega)) (bt_at rfl (by omega) (by omega))) ?_
  refine hcons (kConvF (isX rfl) tu3 (denX rfl) (fI64 (by omega) (by omega))) ?_
  refine hcons (kAdd (isX rfl) (isX rfl) (denX rfl) rfl (fI64 (by omega) (by omega))) ?_
  refine hcons (kIdxE (i := 6) (isX rfl) (isZ (m := 6) rfl) (denZ (m := 2) rfl) rfl (by first | omega | (simp only [List.length_append, List.length_cons, List.length_nil, List.length_take, List.length_drop, Int.natCast_add] at *; omega)) (bt_at rfl (by omega) (by omega))) ?_
  refine hcons (kAdd (isX rfl) (isZ (m := 2) rfl) (denX rfl) rfl (fI64 (by omega) (by omega))) ?_
  refine hcons (kLt (isX rfl) (isX rfl) (decide_eq_false (by omega))) ?_
  refine hcons (kIdxE (i := 1) (isX rfl) (isZ (m := 1) rfl) (denX rfl) rfl (by first | omega | (simp only [List.length_append, List.length_cons, List.length_nil, List.length_take, List.length_drop, Int.natCast_add] at *; omega)) (bt_at rfl (by omega) (by omega))) ?_
  refine hcons (kEqI (isX rfl) (isZ (m := 0) rfl) (decide_eq_false (by omega))) ?_
  refine hcons (kConvF (isX rfl) tu3 (denX rfl) (fI64 (by omega) (by omega))) ?_
  refine hcons (kIdxE (i := 2) (isX rfl) (isZ (m := 2) rfl) (denX rfl) rfl (by first | omega | (simp only [List.length_append, List.length_cons, List.length_nil, List.length_take, List.length_drop, Int.natCast_add] at *; omega)) (bt_at rfl (by omega) (by omega))) ?_
  refine hcons (kConvF (isX rfl) tu3 (denX rfl) (fI64 (by omega) (by omega))) ?_
  refine hcons (kShlM 8 256 rfl (isX rfl) (isZ (m := 8) rfl) (denX rfl) rfl (by decide) rfl (fI64 (by omega) (by omega))) ?_
  refine hcons (kIdxE (i := 3) (isX rfl) (isZ (m := 3) rfl) (denX rfl) rfl (by first | omega | (simp only [List.length_append, List.length_cons, List.length_nil, List.length_take, List.length_drop, Int.natCast_add] at *; omega)) (bt_at rfl (by omega) (by omega))) ?_
  refine hcons (kConvF (isX rfl) tu3 (denX rfl) (fI64 (by omega) (by omega))) ?_
  refine hcons (kOrM 8 256 rfl (isX rfl) (isX rfl) (denX rfl) (by omega) (by omega) (fI64 (by omega) (by omega)) (fI64 (by omega) (by omega)) (by omega) (by omega) rfl (fI64 (by omega) (by omega))) ?_
  refine hcons (kSub (isX rfl) (isZ (m := 2) rfl) (denX rfl) rfl (fI64 (by omega) (by omega))) ?_
  refine hcons (kCut (isX rfl) (.inr ⟨_, _, rfl, (isZ (m := 8) rfl)⟩) (.inr ⟨_, _, rfl, (isX rfl)⟩) (p := [u8 1, u8 (t), u8 (id / 256), u8 (id % 256), u8 ((((c.length : Int)) / 256) % 256), u8 (((c.length : Int)) % 256), u8 2, u8 0]) (m := c) (q := ([u8 0, u8 0] ++ more)) (by first | rfl | (simp only [List.append_assoc, List.cons_append, List.nil_append, List.append_nil]; done)) (by first | omega | (simp only [List.length_append, List.length_cons, List.length_nil, List.length_take, List.length_drop, Int.natCast_add] at *; omega)) (by first | omega | (simp only [List.length_append, List.length_cons, List.length_nil, List.length_take, List.length_drop, Int.natCast_add] at *; omega)) (denX rfl)) ?_
  refine hcons (kCut (isX rfl) (.inr ⟨_, _, rfl, (isX rfl)⟩) (.inl ⟨rfl, rfl⟩) (p := ([u8 1, u8 (t), u8 (id / 256), u8 (id % 256), u8 ((((c.length : Int)) / 256) % 256), u8 (((c.length : Int)) % 256), u8 2, u8 0] ++ (c ++ [u8 0, u8 0]))) (m := more) (q := ([] : List UInt8)) (by first | rfl | (simp only [List.append_assoc, List.cons_append, List.nil_append, List.append_nil]; done)) (by first | omega | (simp only [List.length_append, List.length_cons, List.length_nil, List.length_take, List.length_drop, Int.natCast_add] at *; omega)) (by first | omega | (simp only [List.length_append, List.length_cons, List.length_nil, List.length_take, List.length_drop, Int.natCast_add] at *; omega)) (denX rfl)) ?_
  refine hcons (kConvF (isX rfl) tu3 (denX rfl) (fI64 (by omega) (by omega))) ?_
  refine hcons (kRem (isX rfl) (isX rfl) (denX rfl) (by omega) (by omega) rfl) ?_
  refine hcons (kTake (isX rfl) (isX rfl) (by first | omega | (simp only [List.length_append, List.length_cons, List.length_nil, List.length_take, List.length_drop, Int.natCast_add] at *; omega)) (by first | omega | (simp only [List.length_append, List.length_cons, List.length_nil, List.length_take, List.length_drop, Int.natCast_add] at *; omega)) (denX rfl)) ?_
  refine hcons (kNeS (isX rfl) (isSx (l := ([] : List UInt8)) 0 0 rfl) (bnT (by first | exact nilT (by first | omega | (simp only [List.length_append, List.length_cons, List.length_nil, List.length_take, List.length_drop, Int.natCast_add] at *; omega)) | exact nilF (by first | omega | (simp only [List.length_append, List.length_cons, List.length_nil, List.length_take, List.length_drop, Int.natCast_add] at *; omega)) | exact nilT' (by first | omega | (simp only [List.length_append, List.length_cons, List.length_nil, List.length_take, List.length_drop, Int.natCast_add] at *; omega)) | exact nilF' (by first | omega | (simp only [List.length_append, List.length_cons, List.length_nil, List.length_take, List.length_drop, Int.natCast_add] at *; omega))))) ?_
  refine hcons (kIdxE (i := 0) (isX rfl) (isZ (m := 0) rfl) (denZ (m := 1) rfl) rfl (by first | omega | (simp only [List.length_append, List.length_cons, List.length_nil, List.length_take, List.length_drop, Int.natCast_add] at *; omega)) ((bt_take (by omega)).trans (bt_at rfl (by omega) (by omega)))) ?_
  refine hcons (kLenE (isX rfl) (denX rfl) (by first | omega | (simp only [List.length_append, List.length_cons, List.length_nil, List.length_take, List.length_drop, Int.natCast_add] at *; omega))) ?_
  refine hcons (kLt (isX rfl) (isZ (m := 8) rfl) (decide_eq_false (by omega))) ?_
  refine hcons (kIdxE (i := 4) (isX rfl) (isZ (m := 4) rfl) (denX rfl) rfl (by first | omega | (simp only [List.length_append, List.length_cons, List.length_nil, List.length_take, List.length_drop, Int.natCast_add] at *; omega)) ((bt_take (by omega)).trans (bt_at rfl (by omega) (by omega)))) ?_
  refine hcons (kConvF (isX rfl) tu3 (denX rfl) (fI64 (by omega) (by omega))) ?_
  refine hcons (kShlM 8 256 rfl (isX rfl) (isZ (m := 8) rfl) (denX rfl) rfl (by decide) rfl (fI64 (by omega) (by omega))) ?_
  refine hcons (kAdd (isZ (m := 8) rfl) (isX rfl) (denX rfl) rfl (fI64 (by omega) (by omega))) ?_
  refine hcons (kIdxE (i := 5) (isX rfl) (isZ (m := 5) rfl) (denX rfl) rfl (by first | omega | (simp only [List.length_append, List.length_cons, List.length_nil, List.length_take, List.length_drop, Int.natCast_add] at *; omega)) ((bt_take (by omega)).trans (bt_at rfl (by omega) (by omega)))) ?_
  refine hcons (kConvF (isX rfl) tu3 (denX rfl) (fI64 (by omega) (by omega))) ?_
  refine hcons (kAdd (isX rfl) (isX rfl) (denX rfl) rfl (fI64 (by omega) (by omega))) ?_
  refine hcons (kIdxE (i := 6) (isX rfl) (isZ (m := 6) rfl) (denZ (m := 2) rfl) rfl (by first | omega | (simp only [List.length_append, List.length_cons, List.length_nil, List.length_take, List.length_drop, Int.natCast_add] at *; omega)) ((bt_take (by omega)).trans (bt_at rfl (by omega) (by omega)))) ?_
  refine hcons (kAdd (isX rfl) (isZ (m := 2) rfl) (denX rfl) rfl (fI64 (by omega) (by omega))) ?_
  refine hcons (kLt (isX rfl) (isX rfl) (decide_eq_true (by omega))) ?_
  refine hcons (kEqT (isX rfl) (isX rfl) tu3 (decide_eq_true (by omega))) ?_
  refine hcons (kEqT (isX rfl) (isX rfl) tu3 (decide_eq_true (by omega))) ?_
  refine hcons (kEqTS (isX rfl) (isX rfl) tu9 (decide_eq_true rfl)) ?_
  refine hcons (kEqS (isX rfl) (isX rfl) (decide_eq_true rfl)) ?_
  exact hnil
theorem path20 (t : Int) (id : Int) (c : List UInt8) (more : List UInt8) (cut : Int) (b0 : 0 ≤ t) (b1 : t ≤ 255) (b2 : 0 ≤ id) (b3 : id ≤ 65535) (b4 : c.length ≤ 9223372036854775807) (b5 : more.length ≤ 9223372036854775807) (b6 : 0 ≤ cut) (b7 : cut ≤ 65535) (h0 : ¬ (2000 < (c.length : Int))) (h1 : ¬ (200 < (more.length : Int))) (h2 : ¬ (t = 0)) (h3 : ¬ ((-(max ((c.length : Int)) 0)) % 8 = 0)) (h4 : ¬ ((-(max ((c.length : Int)) 0)) % 8 = 1)) (h5 : (-(max ((c.length : Int)) 0)) % 8 = 2) (h17 : ¬ ((cut % ((c.length : Int) + 10)) = 0)) (h18 : ¬ ((cut % ((c.length : Int) + 10)) < 8)) (w : World) (hl : laidE w) : Calls Try.prog 3 #[.int .u8 t, .int .u16 id, St' c, .bool true, St' more, .int .u16 cut] w fun e w' => e = .returned (.bool true) ∧ Go.AX.Below w.heap.size w w' := by
  obtain ⟨fi, hfi, hb⟩ : ∃ fi, tabk.fn.get 3 = some fi ∧ fi.body.isSome = true := ⟨_, rfl, by kernel_rfl⟩
  exact runP (tb := tab20) ((tabkOk (nuL (nu20 t id c more cut)) (one20 t id c more cut)).hyps (hyOk20 t id c more cut b0 b1 b2 b3 b4 b5 b6 b7 h0 h1 h2 h3 h4 h5 h17 h18)) rfl hfi hb (run20 ) (args := [.int .u8 t, .int .u16 id, St' c, .bool true, St' more, .int .u16 cut]) (by simp only [RelL, Rel]; exact ⟨_, _, rfl, rfl, ⟨_, _, rfl, rfl, ⟨_, _, rfl, rfl, ⟨_, _, rfl, rfl, ⟨_, _, rfl, rfl, ⟨_, _, rfl, rfl, rfl⟩⟩⟩⟩⟩⟩) w hl
def hy21 : List (HK × AV) := [(.len (.x 2), .x 5),
  (.bin .gtr (.x 5) (.i .i64 (.ofNat 2000)), .b false),
  (.len (.x 3), .x 6),
  (.bin .gtr (.x 6) (.i .i64 (.ofNat 200)), .b false),
  (.bin .eql (.x 0) (.i .u8 (.ofNat 0)), .b false),
  (.conv 3 (.x 0), .x 7),
  (.conv 3 (.x 1), .x 8),
  (.mm true (.x 5) (.i .i64 (.ofNat 0)), .x 9),
  (.un .neg (.x 9), .x 10),
  (.bin .and (.x 10) (.i .i64 (.ofNat 7)), .i .i64 (.ofNat 1)),
  (.bin .geq (.x 7) (.i .i64 (.ofNat 1)), .b true),
  (.bin .leq (.x 7) (.i .i64 (.ofNat 255)), .b true),
  (.bin .geq (.x 8) (.i .i64 (.ofNat 0)), .b true),
  (.bin .leq (.x 8) (.i .i64 (.ofNat 65535)), .b true),
  (.bin .leq (.x 5) (.i .i64 (.ofNat 65535)), .b true),
  (.conv 5 (.x 7), .x 11),
  (.bin .shr (.x 8) (.i .u64 (.ofNat 8)), .x 12),
  (.conv 5 (.x 12), .x 13),
  (.conv 5 (.x 8), .x 14),
  (.bin .shr (.x 5) (.i .u64 (.ofNat 8)), .x 15),
  (.conv 5 (.x 15), .x 16),
  (.conv 5 (.x 5), .x 17),
  (.bytes [.i .u8 (.ofNat 1), .x 11, .x 13, .x 14, .x 16, .x 17, .i .u8 (.ofNat 1), .i .u8 (.ofNat 0)], .x 18),
  (.bin .add (.x 18) (.x 2), .x 19),
  (.bin .add (.x 19) (.s 1 0), .x 20),
  (.len (.x 20), .x 21),
  (.bin .lss (.x 21) (.i .i64 (.ofNat 8)), .b false),
  (.bin .rem (.x 21) (.i .i64 (.ofNat 8)), .x 22),
  (.bin .neq (.x 22) (.i .i64 (.ofNat 0)), .b false),
  (.bin .add (.x 20) (.x 3), .x 23),
  (.bin .neq (.x 23) (.s 0 0), .b true),
  (.idx (.x 23) (.i .i64 (.ofNat 0)), .i .u8 (.ofNat 1)),
  (.len (.x 23), .x 24),
  (.bin .lss (.x 24) (.i .i64 (.ofNat 8)), .b false),
  (.idx (.x 23) (.i .i64 (.ofNat 4)), .x 25),
  (.conv 3 (.x 25), .x 26),
  (.bin .shl (.x 26) (.i .u64 (.ofNat 8)), .x 27),
  (.bin .add (.i .i64 (.ofNat 8)) (.x 27), .x 28),
  (.idx (.x 23) (.i .i64 (.ofNat 5)), .x 29),
  (.conv 3 (.x 29), .x 30),
  (.bin .add (.x 28) (.x 30), .x 31),
  (.idx (.x 23) (.i .i64 (.ofNat 6)), .i .u8 (.ofNat 1)),
  (.bin .add (.x 31) (.i .i64 (.ofNat 1)), .x 32),
  (.bin .lss (.x 24) (.x 32), .b false),
  (.idx (.x 23) (.i .i64 (.ofNat 1)), .x 33),
  (.bin .eql (.x 33) (.i .u8 (.ofNat 0)), .b false),
  (.conv 3 (.x 33), .x 34),
  (.idx (.x 23) (.i .i64 (.ofNat 2)), .x 35),
  (.conv 3 (.x 35), .x 36),
  (.bin .shl (.x 36) (.i .u64 (.ofNat 8)), .x 37),
  (.idx (.x 23) (.i .i64 (.ofNat 3)), .x 38),
  (.conv 3 (.x 38), .x 39),
  (.bin .or (.x 37) (.x 39), .x 40),
  (.bin .sub (.x 32) (.i .i64 (.ofNat 1)), .x 41),
  (.sub (.x 23) (some (.i .i64 (.ofNat 8))) (some (.x 41)), .x 42),
  (.sub (.x 23) (some (.x 32)) none, .x 43),
  (.conv 3 (.x 4), .x 44),
  (.bin .rem (.x 44) (.x 21), .x 45),
  (.sub (.x 20) none (some (.x 45)), .x 46),
  (.bin .neq (.x 46) (.s 0 0), .b false),
  (.len (.x 46), .x 47),
  (.bin .lss (.x 47) (.i .i64 (.ofNat 8)), .b true),
  (.eq 3 (.x 34) (.x 7), .b true),
  (.eq 3 (.x 40) (.x 8), .b true),
  (.eq 9 (.x 42) (.x 2), .b true),
  (.bin .eql (.x 43) (.x 3), .b true)]
noncomputable def tab21 : Tab := { tabk with hyp := hy21 }
theorem run21 : okB (call tab21 9000 3 [.x 0, .x 1, .x 2, .b true, .x 3, .x 4] ⟨H0 , 1, 0, 0⟩) = true := by kernel_rfl
def nu21 (t : Int) (id : Int) (c : List UInt8) (more : List UInt8) (cut : Int) : List Value := [.int .u8 (t),
  .int .u16 (id),
  St' c,
  St' more,
  .int .u16 (cut),
  .int .i64 ((c.length : Int)),
  .int .i64 ((more.length : Int)),
  .int .i64 (t),
  .int .i64 (id),
  .int .i64 (max ((c.length : Int)) 0),
  .int .i64 (-(max ((c.length : Int)) 0)),
  .int .u8 (t),
  .int .i64 (id / 256),
  .int .u8 (id / 256),
  .int .u8 (id % 256),
  .int .i64 (((c.length : Int)) / 256),
  .int .u8 ((((c.length : Int)) / 256) % 256),
  .int .u8 (((c.length : Int)) % 256),
  St' ([u8 1, u8 (t), u8 (id / 256), u8 (id % 256), u8 ((((c.length : Int)) / 256) % 256), u8 (((c.length : Int)) % 256), u8 1, u8 0]),
  St' (([u8 1, u8 (t), u8 (id / 256), u8 (id % 256), u8 ((((c.length : Int)) / 256) % 256), u8 (((c.length : Int)) % 256), u8 1, u8 0] ++ c)),
  St' (([u8 1, u8 (t), u8 (id / 256), u8 (id % 256), u8 ((((c.length : Int)) / 256) % 256), u8 (((c.length : Int)) % 256), u8 1, u8 0] ++ (c ++ [u8 0]))),
  .int .i64 ((c.length : Int) + 9),
  .int .i64 (((c.length : Int) + 9) % 8),
  St' (([u8 1, u8 (t), u8 (id / 256), u8 (id % 256), u8 ((((c.length : Int)) / 256) % 256), u8 (((c.length : Int)) % 256), u8 1, u8 0] ++ (c ++ ([u8 0] ++ more)))),
  .int .i64 ((c.length : Int) + (more.length : Int) + 9),
  .int .u8 ((((c.length : Int)) / 256) % 256),
  .int .i64 ((((c.length : Int)) / 256) % 256),
  .int .i64 (((((c.length : Int)) / 256) % 256) * 256),
  .int .i64 (8 + (((((c.length : Int)) / 256) % 256) * 256)),
  .int .u8 (((c.length : Int)) % 256),
  .int .i64 (((c.length : Int)) % 256),
  .int .i64 ((8 + (((((c.length : Int)) / 256) % 256) * 256)) + (((c.length : Int)) % 256)),
  .int .i64 (((8 + (((((c.length : Int)) / 256) % 256) * 256)) + (((c.length : Int)) % 256)) + 1),
  .int .u8 (t),
  .int .i64 (t),
  .int .u8 (id / 256),
  .int .i64 (id / 256),
  .int .i64 ((id / 256) * 256),
  .int .u8 (id % 256),
  .int .i64 (id % 256),
  .int .i64 (((id / 256) * 256) + (id % 256)),
  .int .i64 ((((8 + (((((c.length : Int)) / 256) % 256) * 256)) + (((c.length : Int)) % 256)) + 1) - 1),
  St' c,
  St' more,
  .int .i64 (cut),
  .int .i64 (cut % ((c.length : Int) + 9)),
  St' ((List.take (cut % ((c.length : Int) + 9)).toNat (([u8 1, u8 (t), u8 (id / 256), u8 (id % 256), u8 ((((c.length : Int)) / 256) % 256), u8 (((c.length : Int)) % 256), u8 1, u8 0] ++ (c ++ [u8 0]))))),
  .int .i64 ((cut % ((c.length : Int) + 9)))]
theorem one21 (t : Int) (id : Int) (c : List UInt8) (more : List UInt8) (cut : Int) : ∀ j, (nuL (nu21 t id c more cut) j).oneCell' = true := nuL_one (l := nu21 t id c more cut) rfl
set_option maxHeartbeats 2000000 in
theorem hyOk21 (t : Int) (id : Int) (c : List UInt8) (more : List UInt8) (cut : Int) (b0 : 0 ≤ t) (b1 : t ≤ 255) (b2 : 0 ≤ id) (b3 : id ≤ 65535) (b4 : c.length ≤ 9223372036854775807) (b5 : more.length ≤ 9223372036854775807) (b6 : 0 ≤ cut) (b7 : cut ≤ 65535) (h0 : ¬ (2000 < (c.length : Int))) (h1 : ¬ (200 < (more.length : Int))) (h2 : ¬ (t = 0)) (h3 : ¬ ((-(max ((c.length : Int)) 0)) % 8 = 0)) (h4 : (-(max ((c.length : Int)) 0)) % 8 = 1) (h16 : (cut % ((c.length : Int) + 9)) = 0) : ∀ k r, (k, r) ∈ hy21 → HOk (cx (nuL (nu21 t id c more cut)) (one21 t id c more cut) 0 laidE laidE_stab) k r := by
  have := Int.emod_nonneg cut (show ((c.length : Int) + 9) ≠ 0 by omega); have := Int.emod_lt_of_pos cut (show 0 < ((c.length : Int) + 9) by omega)
  unfold hy21
  refine hcons (kLenE (isX rfl) (denX rfl) (by first | omega | (simp only [List.length_append, List.length_cons, List.length_nil, List.length_take, List.length_drop, Int.natCast_add] at *; omega))) ?_
  refine hcons (kGt (isX rfl) (isZ (m := 2000) rfl) (decide_eq_false (by omega))) ?_
  refine hcons (kLenE (isX rfl) (denX rfl) (by first | omega | (simp only [List.length_append, List.length_cons, List.length_nil, List.length_take, List.length_drop, Int.natCast_add] at *; omega))) ?_
  refine hcons (kGt (isX rfl) (isZ (m := 200) rfl) (decide_eq_false (by omega))) ?_
  refine hcons (kEqI (isX rfl) (isZ (m := 0) rfl) (decide_eq_false (by omega))) ?_
  refine hcons (kConvF (isX rfl) tu3 (denX rfl) (fI64 (by omega) (by omega))) ?_
  refine hcons (kConvF (isX rfl) tu3 (denX rfl) (fI64 (by omega) (by omega))) ?_
  refine hcons (kMax (isX rfl) (isZ (m := 0) rfl) (denX rfl) rfl) ?_
  refine hcons (kNeg (isX rfl) (denX rfl) rfl (fI64 (by omega) (by omega))) ?_
  refine hcons (kAndG 3 8 rfl (by decide) (isX rfl) (isZ (m := 7) rfl) (denZ (m := 1) rfl) (fI64 (by omega) (by omega)) rfl (by omega) (fI64 (by omega) (by omega))) ?_
  refine hcons (kGe (isX rfl) (isZ (m := 1) rfl) (decide_eq_true (by omega))) ?_
  refine hcons (kLe (isX rfl) (isZ (m := 255) rfl) (decide_eq_true (by omega))) ?_
  refine hcons (kGe (isX rfl) (isZ (m := 0) rfl) (decide_eq_true (by omega))) ?_
  refine hcons (kLe (isX rfl) (isZ (m := 65535) rfl) (decide_eq_true (by omega))) ?_
  refine hcons (kLe (isX rfl) (isZ (m := 65535) rfl) (decide_eq_true (by omega))) ?_
  refine hcons (kConvF (isX rfl) tu5 (denX rfl) (fU8 (by omega) (by omega))) ?_
  refine hcons (kShrM 8 256 rfl (isX rfl) (isZ (m := 8) rfl) (denX rfl) rfl (by decide) (by omega) rfl) ?_
  refine hcons (kConvF (isX rfl) tu5 (denX rfl) (fU8 (by omega) (by omega))) ?_
  refine hcons (kConv8 (isX rfl) tu5 (denX rfl) rfl) ?_
  refine hcons (kShrM 8 256 rfl (isX rfl) (isZ (m := 8) rfl) (denX rfl) rfl (by decide) (by omega) rfl) ?_
  refine hcons (kConv8 (isX rfl) tu5 (denX rfl) rfl) ?_
  refine hcons (kConv8 (isX rfl) tu5 (denX rfl) rfl) ?_
  refine hcons (kBytesB (bs := [u8 1, u8 (t), u8 (id / 256), u8 (id % 256), u8 ((((c.length : Int)) / 256) % 256), u8 (((c.length : Int)) % 256), u8 1, u8 0]) (.cons (isB8 (isZ (m := 1) rfl) (by omega) (by omega)) (.cons (isB8 (isX rfl) (by omega) (by omega)) (.cons (isB8 (isX rfl) (by omega) (by omega)) (.cons (isB8 (isX rfl) (by omega) (by omega)) (.cons (isB8 (isX rfl) (by omega) (by omega)) (.cons (isB8 (isX rfl) (by omega) (by omega)) (.cons (isB8 (isZ (m := 1) rfl) (by omega) (by omega)) (.cons (isB8 (isZ (m := 0) rfl) (by omega) (by omega)) .nil)))))))) (denX rfl)) ?_
  refine hcons (kCat (isX rfl) (isX rfl) (denX rfl) (by first | rfl | (simp only [List.append_assoc, List.cons_append, List.nil_append, List.append_nil]; done)) (by first | omega | (simp only [List.length_append, List.length_cons, List.length_nil, List.length_take, List.length_drop, Int.natCast_add] at *; omega))) ?_
  refine hcons (kCat (isX rfl) (isSx (l := [u8 0]) 1 0 rfl) (denX rfl) (by first | rfl | (simp only [List.append_assoc, List.cons_append, List.nil_append, List.append_nil]; done)) (by first | omega | (simp only [List.length_append, List.length_cons, List.length_nil, List.length_take, List.length_drop, Int.natCast_add] at *; omega))) ?_
  refine hcons (kLenE (isX rfl) (denX rfl) (by first | omega | (simp only [List.length_append, List.length_cons, List.length_nil, List.length_take, List.length_drop, Int.natCast_add] at *; omega))) ?_
  refine hcons (kLt (isX rfl) (isZ (m := 8) rfl) (decide_eq_false (by omega))) ?_
  refine hcons (kRem (isX rfl) (isZ (m := 8) rfl) (denX rfl) (by omega) (by omega) rfl) ?_
  refine hcons (kNeI (isX rfl) (isZ (m := 0) rfl) (neF (by omega))) ?_
  refine hcons (kCat (isX rfl) (isX rfl) (denX rfl) (by first | rfl | (simp only [List.append_assoc, List.cons_append, List.nil_append, List.append_nil]; done)) (by first | omega | (simp only [List.length_append, List.length_cons, List.length_nil, List.length_take, List.length_drop, Int.natCast_add] at *; omega))) ?_
  refine hcons (kNeS (isX rfl) (isSx (l := ([] : List UInt8)) 0 0 rfl) (bnT (by first | exact nilT (by first | omega | (simp only [List.length_append, List.length_cons, List.length_nil, List.length_take, List.length_drop, Int.natCast_add] at *; omega)) | exact nilF (by first | omega | (simp only [List.length_append, List.length_cons, List.length_nil, List.length_take, List.length_drop, Int.natCast_add] at *; omega)) | exact nilT' (by first | omega | (simp only [List.length_append, List.length_cons, List.length_nil, List.length_take, List.length_drop, Int.natCast_add] at *; omega)) | exact nilF' (by first | omega | (simp only [List.length_append, List.length_cons, List.length_nil, List.length_take, List.length_drop, Int.natCast_add] at *; omega))))) ?_
  refine hcons (kIdxE (i := 0) (isX rfl) (isZ (m := 0) rfl) (denZ (m := 1) rfl) rfl (by first | omega | (simp only [List.length_append, List.length_cons, List.length_nil, List.length_take, List.length_drop, Int.natCast_add] at *; omega)) (bt_at rfl (by omega) (by omega))) ?_
  refine hcons (kLenE (isX rfl) (denX rfl) (by first | omega | (simp only [List.length_append, List.length_cons, List.length_nil, List.length_take, List.length_drop, Int.natCast_add] at *; omega))) ?_
  refine hcons (kLt (isX rfl) (isZ (m := 8) rfl) (decide_eq_false (by omega))) ?_
  refine hcons (kIdxE (i := 4) (isX rfl) (isZ (m := 4) rfl) (denX rfl) rfl (by first | omega | (simp only [List.length_append, List.length_cons, List.length_nil, List.length_take, List.length_drop, Int.natCast_add] at *; omega)) (bt_at rfl (by omega) (by omega))) ?_
  refine hcons (kConvF (isX rfl) tu3 (denX rfl) (fI64 (by omega) (by omega))) ?_
  refine hcons (kShlM 8 256 rfl (isX rfl) (isZ (m := 8) rfl) (denX rfl) rfl (by decide) rfl (fI64 (by omega) (by omega))) ?_
  refine hcons (kAdd (isZ (m := 8) rfl) (isX rfl) (denX rfl) rfl (fI64 (by omega) (by omega))) ?_
  refine hcons (kIdxE (i := 5) (isX rfl) (isZ (m := 5) rfl) (denX rfl) rfl (by first | omega | (simp only [List.length_append, List.length_cons, List.length_nil, List.length_take, List.length_drop, Int.natCast_add] at *; omega)) (bt_at rfl (by omega) (by omega))) ?_
  refine hcons (kConvF (isX rfl) tu3 (denX rfl) (fI64 (by omega) (by omega))) ?_
  refine hcons (kAdd (isX rfl) (isX rfl) (denX rfl) rfl (fI64 (by omega) (by omega))) ?_
  refine hcons (kIdxE (i := 6) (isX rfl) (isZ (m := 6) rfl) (denZ (m := 1) rfl) rfl (by first | omega | (simp only [List.length_append, List.length_cons, List.length_nil, List.length_take, List.length_drop, Int.natCast_add] at *; omega)) (bt_at rfl (by omega) (by omega))) ?_
  refine hcons (kAdd (isX rfl) (isZ (m := 1) rfl) (denX rfl) rfl (fI64 (by omega) (by omega))) ?_
  refine hcons (kLt (isX rfl) (isX rfl) (decide_eq_false (by omega))) ?_
  refine hcons (kIdxE (i := 1) (isX rfl) (isZ (m := 1) rfl) (denX rfl) rfl (by first | omega | (simp only [List.length_append, List.length_cons, List.length_nil, List.length_take, List.length_drop, Int.natCast_add] at *; omega)) (bt_at rfl (by omega) (by omega))) ?_
  refine hcons (kEqI (isX rfl) (isZ (m := 0) rfl) (decide_eq_false (by omega))) ?_
  refine hcons (kConvF (isX rfl) tu3 (denX rfl) (fI64 (by omega) (by omega))) ?_
  refine hcons (kIdxE (i := 2) (isX rfl) (isZ (m := 2) rfl) (denX rfl) rfl (by first | omega | (simp only [List.length_append, List.length_cons, List.length_nil, List.length_take, List.length_drop, Int.natCast_add] at *; omega)) (bt_at rfl (by omega) (by omega))) ?_
  refine hcons (kConvF (isX rfl) tu3 (denX rfl) (fI64 (by omega) (by omega))) ?_
  refine hcons (kShlM 8 256 rfl (isX rfl) (isZ (m := 8) rfl) (denX rfl) rfl (by decide) rfl (fI64 (by omega) (by omega))) ?_
  refine hcons (kIdxE (i := 3) (isX rfl) (isZ (m := 3) rfl) (denX rfl) rfl (by first | omega | (simp only [List.length_append, List.length_cons, List.length_nil, List.length_take, List.length_drop, Int.natCast_add] at *; omega)) (bt_at rfl (by omega) (by omega))) ?_
  refine hcons (kConvF (isX rfl) tu3 (denX rfl) (fI64 (by omega) (by omega))) ?_
  refine hcons (kOrM 8 256 rfl (isX rfl) (isX rfl) (denX rfl) (by omega) (by omega) (fI64 (by omega) (by omega)) (fI64 (by omega) (by omega)) (by omega) (by omega) rfl (fI64 (by omega) (by omega))) ?_
  refine hcons (kSub (isX rfl) (isZ (m := 1) rfl) (denX rfl) rfl (fI64 (by omega) (by omega))) ?_
  refine hcons (kCut (isX rfl) (.inr ⟨_, _, rfl, (isZ (m := 8) rfl)⟩) (.inr ⟨_, _, rfl, (isX rfl)⟩) (p := [u8 1, u8 (t), u8 (id / 256), u8 (id % 256), u8 ((((c.length : Int)) / 256) % 256), u8 (((c.length : Int)) % 256), u8 1, u8 0]) (m := c) (q := ([u8 0] ++ more)) (by first | rfl | (simp only [List.append_assoc, List.cons_append, List.nil_append, List.append_nil]; done)) (by first | omega | (simp only [List.length_append, List.length_cons, List.length_nil, List.length_take, List.length_drop, Int.natCast_add] at *; omega)) (by first | omega | (simp only [List.length_append, List.length_cons, List.length_nil, List.length_take, List.length_drop, Int.natCast_add] at *; omega)) (denX rfl)) ?_
  refine hcons (kCut (isX rfl) (.inr ⟨_, _, rfl, (isX rfl)⟩) (.inl ⟨rfl, rfl⟩) (p := ([u8 1, u8 (t), u8 (id / 256), u8 (id % 256), u8 ((((c.length : Int)) / 256) % 256), u8 (((c.length : Int)) % 256), u8 1, u8 0] ++ (c ++ [u8 0]))) (m := more) (q := ([] : List UInt8)) (by first | rfl | (simp only [List.append_assoc, List.cons_append, List.nil_append, List.append_nil]; done)) (by first | omega | (simp only [List.length_append, List.length_cons, List.length_nil, List.length_take, List.length_drop, Int.natCast_add] at *; omega)) (by first | omega | (simp only [List.length_append, List.length_cons, List.length_nil, List.length_take, List.length_drop, Int.natCast_add] at *; omega)) (denX rfl)) ?_
  refine hcons (kConvF (isX rfl) tu3 (denX rfl) (fI64 (by omega) (by omega))) ?_
  refine hcons (kRem (isX rfl) (isX rfl) (denX rfl) (by omega) (by omega) rfl) ?_
  refine hcons (kTake (isX rfl) (isX rfl) (by first | omega | (simp only [List.length_append, List.length_cons, List.length_nil, List.length_take, List.length_drop, Int.natCast_add] at *; omega)) (by first | omega | (simp only [List.length_append, List.length_cons, List.length_nil, List.length_take, List.length_drop, Int.natCast_add] at *; omega)) (denX rfl)) ?_
  refine hcons (kNeS (isX rfl) (isSx (l := ([] : List UInt8)) 0 0 rfl) (bnF (by first | exact nilT (by first | omega | (simp only [List.length_append, List.length_cons, List.length_nil, List.length_take, List.length_drop, Int.natCast_add] at *; omega)) | exact nilF (by first | omega | (simp only [List.length_append, List.length_cons, List.length_nil, List.length_take, List.length_drop, Int.natCast_add] at *; omega)) | exact nilT' (by first | omega | (simp only [List.length_append, List.length_cons, List.length_nil, List.length_take, List.length_drop, Int.natCast_add] at *; omega)) | exact nilF' (by first | omega | (simp only [List.length_append, List.length_cons, List.length_nil, List.length_take, List.length_drop, Int.natCast_add] at *; omega))))) ?_
  refine hcons (kLenE (isX rfl) (denX rfl) (by first | omega | (simp only [List.length_append, List.length_cons, List.length_nil, List.length_take, List.length_drop, Int.natCast_add] at *; omega))) ?_
  refine hcons (kLt (isX rfl) (isZ (m := 8) rfl) (decide_eq_true (by omega))) ?_
  refine hcons (kEqT (isX rfl) (isX rfl) tu3 (decide_eq_true (by omega))) ?_
  refine hcons (kEqT (isX rfl) (isX rfl) tu3 (decide_eq_true (by omega))) ?_
  refine hcons (kEqTS (isX rfl) (isX rfl) tu9 (decide_eq_true rfl)) ?_
  refine hcons (kEqS (isX rfl) (isX rfl) (decide_eq_true rfl)) ?_
  exact hnil
theorem path21 (t : Int) (id : Int) (c : List UInt8) (more : List UInt8) (cut : Int) (b0 : 0 ≤ t) (b1 : t ≤ 255) (b2 : 0 ≤ id) (b3 : id ≤ 65535) (b4 : c.length ≤ 9223372036854775807) (b5 : more.length ≤ 9223372036854775807) (b6 : 0 ≤ cut) (b7 : cut ≤ 65535) (h0 : ¬ (2000 < (c.length : Int))) (h1 : ¬ (200 < (more.length : Int))) (h2 : ¬ (t = 0)) (h3 : ¬ ((-(max ((c.length : Int)) 0)) % 8 = 0)) (h4 : (-(max ((c.length : Int)) 0)) % 8 = 1) (h16 : (cut % ((c.length : Int) + 9)) = 0) (w : World) (hl : laidE w) : Calls Try.prog 3 #[.int .u8 t, .int .u16 id, St' c, .bool true, St' more, .int .u16 cut] w fun e w' => e = .returned (.bool true) ∧ Go.AX.Below w.heap.size w w' := by
  obtain ⟨fi, hfi, hb⟩ : ∃ fi, tabk.fn.get 3 = some fi ∧ fi.body.isSome = true := ⟨_, rfl, by kernel_rfl⟩
  exact runP (tb := tab21) ((tabkOk (nuL (nu21 t id c more cut)) (one21 t id c more cut)).hyps (hyOk21 t id c more cut b0 b1 b2 b3 b4 b5 b6 b7 h0 h1 h2 h3 h4 h16)) rfl hfi hb (run21 ) (args := [.int .u8 t, .int .u16 id, St' c, .bool true, St' more, .int .u16 cut]) (by simp only [RelL, Rel]; exact ⟨_, _, rfl, rfl, ⟨_, _, rfl, rfl, ⟨_, _, rfl, rfl, ⟨_, _, rfl, rfl, ⟨_, _, rfl, rfl, ⟨_, _, rfl, rfl, rfl⟩⟩⟩⟩⟩⟩) w hl
def hy22 : List (HK × AV) := [(.len (.x 2), .x 5),
  (.bin .gtr (.x 5) (.i .i64 (.ofNat 2000)), .b false),
  (.len (.x 3), .x 6),
  (.bin .gtr (.x 6) (.i .i64 (.ofNat 200)), .b false),
  (.bin .eql (.x 0) (.i .u8 (.ofNat 0)), .b false),
  (.conv 3 (.x 0), .x 7),
  (.conv 3 (.x 1), .x 8),
  (.mm true (.x 5) (.i .i64 (.ofNat 0)), .x 9),
  (.un .neg (.x 9), .x 10),
  (.bin .and (.x 10) (.i .i64 (.ofNat 7)), .i .i64 (.ofNat 1)),
  (.bin .geq (.x 7) (.i .i64 (.ofNat 1)), .b true),
  (.bin .leq (.x 7) (.i .i64 (.ofNat 255)), .b true),
  (.bin .geq (.x 8) (.i .i64 (.ofNat 0)), .b true),
  (.bin .leq (.x 8) (.i .i64 (.ofNat 65535)), .b true),
  (.bin .leq (.x 5) (.i .i64 (.ofNat 65535)), .b true),
  (.conv 5 (.x 7), .x 11),
  (.bin .shr (.x 8) (.i .u64 (.ofNat 8)), .x 12),
  (.conv 5 (.x 12), .x 13),
  (.conv 5 (.x 8), .x 14),
  (.bin .shr (.x 5) (.i .u64 (.ofNat 8)), .x 15),
  (.conv 5 (.x 15), .x 16),
  (.conv 5 (.x 5), .x 17),
  (.bytes [.i .u8 (.ofNat 1), .x 11, .x 13, .x 14, .x 16, .x 17, .i .u8 (.ofNat 1), .i .u8 (.ofNat 0)], .x 18),
  (.bin .add (.x 18) (.x 2), .x 19),
  (.bin .add (.x 19) (.s 1 0), .x 20),
  (.len (.x 20), .x 21),
  (.bin .lss (.x 21) (.i .i64 (.ofNat 8)), .b false),
  (.bin .rem (.x 21) (.i .i64 (.ofNat 8)), .x 22),
  (.bin .neq (.x 22) (.i .i64 (.ofNat 0)), .b false),
  (.bin .add (.x 20) (.x 3), .x 23),
  (.bin .neq (.x 23) (.s 0 0), .b true),
  (.idx (.x 23) (.i .i64 (.ofNat 0)), .i .u8 (.ofNat 1)),
  (.len (.x 23), .x 24),
  (.bin .lss (.x 24) (.i .i64 (.ofNat 8)), .b false),
  (.idx (.x 23) (.i .i64 (.ofNat 4)), .x 25),
  (.conv 3 (.x 25), .x 26),
  (.bin .shl (.x 26) (.i .u64 (.ofNat 8)), .x 27),
  (.bin .add (.i .i64 (.ofNat 8)) (.x 27), .x 28),
  (.idx (.x 23) (.i .i64 (.ofNat 5)), .x 29),
  (.conv 3 (.x 29), .x 30),
  (.bin .add (.x 28) (.x 30), .x 31),
  (.idx (.x 23) (.i .i64 (.ofNat 6)), .i .u8 (.ofNat 1)),
  (.bin .add (.x 31) (.i .i64 (.ofNat 1)), .x 32),
  (.bin .lss (.x 24) (.x 32), .b false),
  (.idx (.x 23) (.i .i64 (.ofNat 1)), .x 33),
  (.bin .eql (.x 33) (.i .u8 (.ofNat 0)), .b false),
  (.conv 3 (.x 33), .x 34),
  (.idx (.x 23) (.i .i64 (.ofNat 2)), .x 35),
  (.conv 3 (.x 35), .x 36),
  (.bin .shl (.x 36) (.i .u64 (.ofNat 8)), .x 37),
  (.idx (.x 23) (.i .i64 (.ofNat 3)), .x 38),
  (.conv 3 (.x 38), .x 39),
  (.bin .or (.x 37) (.x 39), .x 40),
  (.bin .sub (.x 32) (.i .i64 (.ofNat 1)), .x 41),
  (.sub (.x 23) (some (.i .i64 (.ofNat 8))) (some (.x 41)), .x 42),
  (.sub (.x 23) (some (.x 32)) none, .x 43),
  (.conv 3 (.x 4), .x 44),
  (.bin .rem (.x 44) (.x 21), .x 45),
  (.sub (.x 20) none (some (.x 45)), .x 46),
  (.bin .neq (.x 46) (.s 0 0), .b true),
  (.idx (.x 46) (.i .i64 (.ofNat 0)), .i .u8 (.ofNat 1)),
  (.len (.x 46), .x 47),
  (.bin .lss (.x 47) (.i .i64 (.ofNat 8)), .b true),
  (.eq 3 (.x 34) (.x 7), .b true),
  (.eq 3 (.x 40) (.x 8), .b true),
  (.eq 9 (.x 42) (.x 2), .b true),
  (.bin .eql (.x 43) (.x 3), .b true)]
noncomputable def tab22 : Tab := { tabk with hyp := hy22 }
theorem run22 : okB (call tab22 9000 3 [.x 0, .x 1, .x 2, .b true, .x 3, .x 4] ⟨H0 , 1, 0, 0⟩) = true := by kernel_rfl
def nu22 (t : Int) (id : Int) (c : List UInt8) (more : List UInt8) (cut : Int) : List Value := [.int .u8 (t),
  .int .u16 (id),
  St' c,
  St' more,
  .int .u16 (cut),
  .int .i64 ((c.length : Int)),
  .int .i64 ((more.length : Int)),
  .int .i64 (t),
  .int .i64 (id),
  .int .i64 (max ((c.length : Int)) 0),
  .int .i64 (-(max ((c.length : Int)) 0)),
  .int .u8 (t),
  .int .i64 (id / 256),
  .int .u8 (id / 256),
  .int .u8 (id % 256),
  .int .i64 (((c.length : Int)) / 256),
  .int .u8 ((((c.length : Int)) / 256) % 256),
  .int .u8 (((c.length : Int)) % 256),
  St' ([u8 1, u8 (t), u8 (id / 256), u8 (id % 256), u8 ((((c.length : Int)) / 256) % 256), u8 (((c.length : Int)) % 256), u8 1, u8 0]),
  St' (([u8 1, u8 (t), u8 (id / 256), u8 (id % 256), u8 ((((c.length : Int)) / 256) % 256), u8 (((c.length : Int)) % 256), u8 1, u8 0] ++ c)),
  St' (([u8 1, u8 (t), u8 (id / 256), u8 (id % 256), u8 ((((c.length : Int)) / 256) % 256), u8 (((c.length : Int)) % 256), u8 1, u8 0] ++ (c ++ [u8 0]))),
  .int .i64 ((c.length : Int) + 9),
  .int .i64 (((c.length : Int) + 9) % 8),
  St' (([u8 1, u8 (t), u8 (id / 256), u8 (id % 256), u8 ((((c.length : Int)) / 256) % 256), u8 (((c.length : Int)) % 256), u8 1, u8 0] ++ (c ++ ([u8 0] ++ more)))),
  .int .i64 ((c.length : Int) + (more.length : Int) + 9),
  .int .u8 ((((c.length : Int)) / 256) % 256),
  .int .i64 ((((c.length : Int)) / 256) % 256),
  .int .i64 (((((c.length : Int)) / 256) % 256) * 256),
  .int .i64 (8 + (((((c.length : Int)) / 256) % 256) * 256)),
  .int .u8 (((c.length : Int)) % 256),
  .int .i64 (((c.length : Int)) % 256),
  .int .i64 ((8 + (((((c.length : Int)) / 256) % 256) * 256)) + (((c.length : Int)) % 256)),
  .int .i64 (((8 + (((((c.length : Int)) / 256) % 256) * 256)) + (((c.length : Int)) % 256)) + 1),
  .int .u8 (t),
  .int .i64 (t),
  .int .u8 (id / 256),
  .int .i64 (id / 256),
  .int .i64 ((id / 256) * 256),
  .int .u8 (id % 256),
  .int .i64 (id % 256),
  .int .i64 (((id / 256) * 256) + (id % 256)),
  .int .i64 ((((8 + (((((c.length : Int)) / 256) % 256) * 256)) + (((c.length : Int)) % 256)) + 1) - 1),
  St' c,
  St' more,
  .int .i64 (cut),
  .int .i64 (cut % ((c.length : Int) + 9)),
  St' ((List.take (cut % ((c.length : Int) + 9)).toNat (([u8 1, u8 (t), u8 (id / 256), u8 (id % 256), u8 ((((c.length : Int)) / 256) % 256), u8 (((c.length : Int)) % 256), u8 1, u8 0] ++ (c ++ [u8 0]))))),
  .int .i64 ((cut % ((c.length : Int) + 9)))]
theorem one22 (t : Int) (id : Int) (c : List UInt8) (more : List UInt8) (cut : Int) : ∀ j, (nuL (nu22 t id c more cut) j).oneCell' = true := nuL_one (l := nu22 t id c more cut) rfl
set_option maxHeartbeats 2000000 in
theorem hyOk22 (t : Int) (id : Int) (c : List UInt8) (more : List UInt8) (cut : Int) (b0 : 0 ≤ t) (b1 : t ≤ 255) (b2 : 0 ≤ id) (b3 : id ≤ 65535) (b4 : c.length ≤ 9223372036854775807) (b5 : more.length ≤ 9223372036854775807) (b6 : 0 ≤ cut) (b7 : cut ≤ 65535) (h0 : ¬ (2000 < (c.length : Int))) (h1 : ¬ (200 < (more.length : Int))) (h2 : ¬ (t = 0)) (h3 : ¬ ((-(max ((c.length : Int)) 0)) % 8 = 0)) (h4 : (-(max ((c.length : Int)) 0)) % 8 = 1) (h16 : ¬ ((cut % ((c.length : Int) + 9)) = 0)) (h17 : (cut % ((c.length : Int) + 9)) < 8) : ∀ k r, (k, r) ∈ hy22 → HOk (cx (nuL (nu22 t id c more cut)) (one22 t id c more cut) 0 laidE laidE_stab) k r := by
  have := Int.emod_nonneg cut (show ((c.length : Int) + 9) ≠ 0 by omega); have := Int.emod_lt_of_pos cut (show 0 < ((c.length : Int) + 9) by omega)
  unfold hy22
  refine hcons (kLenE (isX rfl) (denX rfl) (by first | omega | (simp only [List.length_append, List.length_cons, List.length_nil, List.length_take, List.length_drop, Int.natCast_add] at *; omega))) ?_
  refine hcons (kGt (isX rfl) (isZ (m := 2000) rfl) (decide_eq_false (by omega))) ?_
  refine hcons (kLenE (isX rfl) (denX rfl) (by first | omega | (simp only [List.length_append, List.length_cons, List.length_nil, List.length_take, List.length_drop, Int.natCast_add] at *; omega))) ?_
  refine hcons (kGt (isX rfl) (isZ (m := 200) rfl) (decide_eq_false (by omega))) ?_
  refine hcons (kEqI (isX rfl) (isZ (m := 0) rfl) (decide_eq_false (by omega))) ?_
  refine hcons (kConvF (isX rfl) tu3 (denX rfl) (fI64 (by omega) (by omega))) ?_
  refine hcons (kConvF (isX rfl) tu3 (denX rfl) (fI64 (by omega) (by omega))) ?_
  refine hcons (kMax (isX rfl) (isZ (m := 0) rfl) (denX rfl) rfl) ?_
  refine hcons (kNeg (isX rfl) (denX rfl) rfl (fI64 (by omega) (by omega))) ?_
  refine hcons (kAndG 3 8 rfl (by decide) (isX rfl) (isZ (m := 7) rfl) (denZ (m := 1) rfl) (fI64 (by omega) (by omega)) rfl (by omega) (fI64 (by omega) (by omega))) ?_
  refine hcons (kGe (isX rfl) (isZ (m := 1) rfl) (decide_eq_true (by omega))) ?_
  refine hcons (kLe (isX rfl) (isZ (m := 255) rfl) (decide_eq_true (by omega))) ?_
  refine hcons (kGe (isX rfl) (isZ (m := 0) rfl) (decide_eq_true (by omega))) ?_
  refine hcons (kLe (isX rfl) (isZ (m := 65535) rfl) (decide_eq_true (by omega))) ?_
  refine hcons (kLe (isX rfl) (isZ (m := 65535) rfl) (decide_eq_true (by omega))) ?_
  refine hcons (kConvF (isX rfl) tu5 (denX rfl) (fU8 (by omega) (by omega))) ?_
  refine hcons (kShrM 8 256 rfl (isX rfl) (isZ (m := 8) rfl) (denX rfl) rfl (by decide) (by omega) rfl) ?_
  refine hcons (kConvF (isX rfl) tu5 (denX rfl) (fU8 (by omega) (by omega))) ?_
  refine hcons (kConv8 (isX rfl) tu5 (denX rfl) rfl) ?_
  refine hcons (kShrM 8 256 rfl (isX rfl) (isZ (m := 8) rfl) (denX rfl) rfl (by decide) (by omega) rfl) ?_
  refine hcons (kConv8 (isX rfl) tu5 (denX rfl) rfl) ?_
  refine hcons (kConv8 (isX rfl) tu5 (denX rfl) rfl) ?_
  refine hcons (kBytesB (bs := [u8 1, u8 (t), u8 (id / 256), u8 (id % 256), u8 ((((c.length : Int)) / 256) % 256), u8 (((c.length : Int)) % 256), u8 1, u8 0]) (.cons (isB8 (isZ (m := 1) rfl) (by omega) (by omega)) (.cons (isB8 (isX rfl) (by omega) (by omega)) (.cons (isB8 (isX rfl) (by omega) (by omega)) (.cons (isB8 (isX rfl) (by omega) (by omega)) (.cons (isB8 (isX rfl) (by omega) (by omega)) (.cons (isB8 (isX rfl) (by omega) (by omega)) (.cons (isB8 (isZ (m := 1) rfl) (by omega) (by omega)) (.cons (isB8 (isZ (m := 0) rfl) (by omega) (by omega)) .nil)))))))) (denX rfl)) ?_
  refine hcons (kCat (isX rfl) (isX rfl) (denX rfl) (by first | rfl | (simp only [List.append_assoc, List.cons_append, List.nil_append, List.append_nil]; done)) (by first | omega | (simp only [List.length_append, List.length_cons, List.length_nil, List.length_take, List.length_drop, Int.natCast_add] at *; omega))) ?_
  refine hcons (kCat (isX rfl) (isSx (l := [u8 0]) 1 0 rfl) (denX rfl) (by first | rfl | (simp only [List.append_assoc, List.cons_append, List.nil_append, List.append_nil]; done)) (by first | omega | (simp only [List.length_append, List.length_cons, List.length_nil, List.length_take, List.length_drop, Int.natCast_add] at *; omega))) ?_
  refine hcons (kLenE (isX rfl) (denX rfl) (by first | omega | (simp only [List.length_append, List.length_cons, List.length_nil, List.length_take, List.length_drop, Int.natCast_add] at *; omega))) ?_
  refine hcons (kLt (isX rfl) (isZ (m := 8) rfl) (decide_eq_false (by omega))) ?_
  refine hcons (kRem (isX rfl) (isZ (m := 8) rfl) (denX rfl) (by omega) (by omega) rfl) ?_
  refine hcons (kNeI (isX rfl) (isZ (m := 0) rfl) (neF (by omega))) ?_
  refine hcons (kCat (isX rfl) (isX rfl) (denX rfl) (by first | rfl | (simp only [List.append_assoc, List.cons_append, List.nil_append, List.append_nil]; done)) (by first | omega | (simp only [List.length_append, List.length_cons, List.length_nil, List.length_take, List.length_drop, Int.natCast_add] at *; omega))) ?_
  refine hcons (kNeS (isX rfl) (isSx (l := ([] : List UInt8)) 0 0 rfl) (bnT (by first | exact nilT (by first | omega | (simp only [List.length_append, List.length_cons, List.length_nil, List.length_take, List.length_drop, Int.natCast_add] at *; omega)) | exact nilF (by first | omega | (simp only [List.length_append, List.length_cons, List.length_nil, List.length_take, List.length_drop, Int.natCast_add] at *; omega)) | exact nilT' (by first | omega | (simp only [List.length_append, List.length_cons, List.length_nil, List.length_take, List.length_drop, Int.natCast_add] at *; omega)) | exact nilF' (by first | omega | (simp only [List.length_append, List.length_cons, List.length_nil, List.length_take, List.length_drop, Int.natCast_add] at *; omega))))) ?_
  refine hcons (kIdxE (i := 0) (isX rfl) (isZ (m := 0) rfl) (denZ (m := 1) rfl) rfl (by first | omega | (simp only [List.length_append, List.length_cons, List.length_nil, List.length_take, List.length_drop, Int.natCast_add] at *; omega)) (bt_at rfl (by omega) (by omega))) ?_
  refine hcons (kLenE (isX rfl) (denX rfl) (by first | omega | (simp only [List.length_append, List.length_cons, List.length_nil, List.length_take, List.length_drop, Int.natCast_add] at *; omega))) ?_
  refine hcons (kLt (isX rfl) (isZ (m := 8) rfl) (decide_eq_false (by omega))) ?_
  refine hcons (kIdxE (i := 4) (isX rfl) (isZ (m := 4) rfl) (denX rfl) rfl (by first | omega | (simp only [List.length_append, List.length_cons, List.length_nil, List.length_take, List.length_drop, Int.natCast_add] at *; omega)) (bt_at rfl (by omega) (by omega))) ?_
  refine hcons (kConvF (isX rfl) tu3 (denX rfl) (fI64 (by omega) (by omega))) ?_
  refine hcons (kShlM 8 256 rfl (isX rfl) (isZ (m := 8) rfl) (denX rfl) rfl (by decide) rfl (fI64 (by omega) (by omega))) ?_
  refine hcons (kAdd (isZ (m := 8) rfl) (isX rfl) (denX rfl) rfl (fI64 (by omega) (by omega))) ?_
  refine hcons (kIdxE (i := 5) (isX rfl) (isZ (m := 5) rfl) (denX rfl) rfl (by first | omega | (simp only [List.length_append, List.length_cons, List.length_nil, List.length_take, List.length_drop, Int.natCast_add] at *; omega)) (bt_at rfl (by omega) (by omega))) ?_
  refine hcons (kConvF (isX rfl) tu3 (denX rfl) (fI64 (by omega) (by omega))) ?_
  refine hcons (kAdd (isX rfl) (isX rfl) (denX rfl) rfl (fI64 (by omega) (by omega))) ?_
  refine hcons (kIdxE (i := 6) (isX rfl) (isZ (m := 6) rfl) (denZ (m := 1) rfl) rfl (by first | omega | (simp only [List.length_append, List.length_cons, List.length_nil, List.length_take, List.length_drop, Int.natCast_add] at *; omega)) (bt_at rfl (by omega) (by omega))) ?_
  refine hcons (kAdd (isX rfl) (isZ (m := 1) rfl) (denX rfl) rfl (fI64 (by omega) (by omega))) ?_
  refine hcons (kLt (isX rfl) (isX rfl) (decide_eq_false (by omega))) ?_
  refine hcons (kIdxE (i := 1) (isX rfl) (isZ (m := 1) rfl) (denX rfl) rfl (by first | omega | (simp only [List.length_append, List.length_cons, List.length_nil, List.length_take, List.length_drop, Int.natCast_add] at *; omega)) (bt_at rfl (by omega) (by omega))) ?_
  refine hcons (kEqI (isX rfl) (isZ (m := 0) rfl) (decide_eq_false (by omega))) ?_
  refine hcons (kConvF (isX rfl) tu3 (denX rfl) (fI64 (by omega) (by omega))) ?_
  refine hcons (kIdxE (i := 2) (isX rfl) (isZ (m := 2) rfl) (denX rfl) rfl (by first | omega | (simp only [List.length_append, List.length_cons, List.length_nil, List.length_take, List.length_drop, Int.natCast_add] at *; omega)) (bt_at rfl (by omega) (by omega))) ?_
  refine hcons (kConvF (isX rfl) tu3 (denX rfl) (fI64 (by omega) (by omega))) ?_
  refine hcons (kShlM 8 256 rfl (isX rfl) (isZ (m := 8) rfl) (denX rfl) rfl (by decide) rfl (fI64 (by omega) (by omega))) ?_
  refine hcons (kIdxE (i := 3) (isX rfl) (isZ (m := 3) rfl) (denX rfl) rfl (by first | omega | (simp only [List.length_append, List.length_cons, List.length_nil, List.length_take, List.length_drop, Int.natCast_add] at *; omega)) (bt_at rfl (by omega) (by omega))) ?_
  refine hcons (kConvF (isX rfl) tu3 (denX rfl) (fI64 (by omega) (by omega))) ?_
  refine hcons (kOrM 8 256 rfl (isX rfl) (isX rfl) (denX rfl) (by omega) (by omega) (fI64 (by omega) (by omega)) (fI64 (by omega) (by omega)) (by omega) (by omega) rfl (fI64 (by omega) (by omega))) ?_
  refine hcons (kSub (isX rfl) (isZ (m := 1) rfl) (denX rfl) rfl (fI64 (by omega) (by omega))) ?_
  refine hcons (kCut (isX rfl) (.inr ⟨_, _, rfl, (isZ (m := 8) rfl)⟩) (.inr ⟨_, _, rfl, (isX rfl)⟩) (p := [u8 1, u8 (t), u8 (id / 256), u8 (id % 256), u8 ((((c.length : Int)) / 256) % 256), u8 (((c.length : Int)) % 256), u8 1, u8 0]) (m := c) (q := ([u8 0] ++ more)) (by first | rfl | (simp only [List.append_assoc, List.cons_append, List.nil_append, List.append_nil]; done)) (by first | omega | (simp only [List.length_append, List.length_cons, List.length_nil, List.length_take, List.length_drop, Int.natCast_add] at *; omega)) (by first | omega | (simp only [List.length_append, List.length_cons, List.length_nil, List.length_take, List.length_drop, Int.natCast_add] at *; omega)) (denX rfl)) ?_
  refine hcons (kCut (isX rfl) (.inr ⟨_, _, rfl, (isX rfl)⟩) (.inl ⟨rfl, rfl⟩) (p := ([u8 1, u8 (t), u8 (id / 256), u8 (id % 256), u8 ((((c.length : Int)) / 256) % 256), u8 (((c.length : Int)) % 256), u8 1, u8 0] ++ (c ++ [u8 0]))) (m := more) (q := ([] : List UInt8)) (by first | rfl | (simp only [List.append_assoc, List.cons_append, List.nil_append, List.append_nil]; done)) (by first | omega | (simp only [List.length_append, List.length_cons, List.length_nil, List.length_take, List.length_drop, Int.natCast_add] at *; omega)) (by first | omega | (simp only [List.length_append, List.length_cons, List.length_nil, List.length_take, List.length_drop, Int.natCast_add] at *; omega)) (denX rfl)) ?_
  refine hcons (kConvF (isX rfl) tu3 (denX rfl) (fI64 (by omega) (by omega))) ?_
  refine hcons (kRem (isX rfl) (isX rfl) (denX rfl) (by omega) (by omega) rfl) ?_
  refine hcons (kTake (isX rfl) (isX rfl) (by first | omega | (simp only [List.length_append, List.length_cons, List.length_nil, List.length_take, List.length_drop, Int.natCast_add] at *; omega)) (by first | omega | (simp only [List.length_append, List.length_cons, List.length_nil, List.length_take, List.length_drop, Int.natCast_add] at *; omega)) (denX rfl)) ?_
  refine hcons (kNeS (isX rfl) (isSx (l := ([] : List UInt8)) 0 0 rfl) (bnT (by first | exact nilT (by first | omega | (simp only [List.length_append, List.length_cons, List.length_nil, List.length_take, List.length_drop, Int.natCast_add] at *; omega)) | exact nilF (by first | omega | (simp only [List.length_append, List.length_cons, List.length_nil, List.length_take, List.length_drop, Int.natCast_add] at *; omega)) | exact nilT' (by first | omega | (simp only [List.length_append, List.length_cons, List.length_nil, List.length_take, List.length_drop, Int.natCast_add] at *; omega)) | exact nilF' (by first | omega | (simp only [List.length_append, List.length_cons, List.length_nil, List.length_take, List.length_drop, Int.natCast_add] at *; omega))))) ?_
  refine hcons (kIdxE (i := 0) (isX rfl) (isZ (m := 0) rfl) (denZ (m := 1) rfl) rfl (by first | omega | (simp only [List.length_append, List.length_cons, List.length_nil, List.length_take, List.length_drop, Int.natCast_add] at *; omega)) ((bt_take (by omega)).trans (bt_at rfl (by omega) (by omega)))) ?_
  refine hcons (kLenE (isX rfl) (denX rfl) (by first | omega | (simp only [List.length_append, List.length_cons, List.length_nil, List.length_take, List.length_drop, Int.natCast_add] at *; omega))) ?_
  refine hcons (kLt (isX rfl) (isZ (m := 8) rfl) (decide_eq_true (by omega))) ?_
  refine hcons (kEqT (isX rfl) (isX rfl) tu3 (decide_eq_true (by omega))) ?_
  refine hcons (kEqT (isX rfl) (isX rfl) tu3 (decide_eq_true (by omega))) ?_
  refine hcons (kEqTS (isX rfl) (isX rfl) tu9 (decide_eq_true rfl)) ?_
  refine hcons (kEqS (isX rfl) (isX rfl) (decide_eq_true rfl)) ?_
  exact hnil
theorem path22 (t : Int) (id : Int) (c : List UInt8) (more : List UInt8) (cut : Int) (b0 : 0 ≤ t) (b1 : t ≤ 255) (b2 : 0 ≤ id) (b3 : id ≤ 65535) (b4 : c.length ≤ 9223372036854775807) (b5 : more.length ≤ 9223372036854775807) (b6 : 0 ≤ cut) (b7 : cut ≤ 65535) (h0 : ¬ (2000 < (c.length : Int))) (h1 : ¬ (200 < (more.length : Int))) (h2 : ¬ (t = 0)) (h3 : ¬ ((-(max ((c.length : Int)) 0)) % 8 = 0)) (h4 : (-(max ((c.length : Int)) 0)) % 8 = 1) (h16 : ¬ ((cut % ((c.length : Int) + 9)) = 0)) (h17 : (cut % ((c.length : Int) + 9)) < 8) (w : World) (hl : laidE w) : Calls Try.prog 3 #[.int .u8 t, .int .u16 id, St' c, .bool true, St' more, .int .u16 cut] w fun e w' => e = .returned (.bool true) ∧ Go.AX.Below w.heap.size w w' := by
  obtain ⟨fi, hfi, hb⟩ : ∃ fi, tabk.fn.get 3 = some fi ∧ fi.body.isSome = true := ⟨_, rfl, by kernel_rfl⟩
  exact runP (tb := tab22) ((tabkOk (nuL (nu22 t id c more cut)) (one22 t id c more cut)).hyps (hyOk22 t id c more cut b0 b1 b2 b3 b4 b5 b6 b7 h0 h1 h2 h3 h4 h16 h17)) rfl hfi hb (run22 ) (args := [.int .u8 t, .int .u16 id, St' c, .bool true, St' more, .int .u16 cut]) (by simp only [RelL, Rel]; exact ⟨_, _, rfl, rfl, ⟨_, _, rfl, rfl, ⟨_, _, rfl, rfl, ⟨_, _, rfl, rfl, ⟨_, _, rfl, rfl, ⟨_, _, rfl, rfl, rfl⟩⟩⟩⟩⟩⟩) w hl
def hy23 : List (HK × AV) := [(.len (.x 2), .x 5),
  (.bin .gtr (.x 5) (.i .i64 (.ofNat 2000)), .b false),
  (.len (.x 3), .x 6),
  (.bin .gtr (.x 6) (.i .i64 (.ofNat 200)), .b false),
  (.bin .eql (.x 0) (.i .u8 (.ofNat 0)), .b false),
  (.conv 3 (.x 0), .x 7),
  (.conv 3 (.x 1), .x 8),
  (.mm true (.x 5) (.i .i64 (.ofNat 0)), .x 9),
  (.un .neg (.x 9), .x 10),
  (.bin .and (.x 10) (.i .i64 (.ofNat 7)), .i .i64 (.ofNat 1)),
  (.bin .geq (.x 7) (.i .i64 (.ofNat 1)), .b true),
  (.bin .leq (.x 7) (.i .i64 (.ofNat 255)), .b true),
  (.bin .geq (.x 8) (.i .i64 (.ofNat 0)), .b true),
  (.bin .leq (.x 8) (.i .i64 (.ofNat 65535)), .b true),
  (.bin .leq (.x 5) (.i .i64 (.ofNat 65535)), .b true),
  (.conv 5 (.x 7), .x 11),
  (.bin .shr (.x 8) (.i .u64 (.ofNat 8)), .x 12),
  (.conv 5 (.x 12), .x 13),
  (.conv 5 (.x 8), .x 14),
  (.bin .shr (.x 5) (.i .u64 (.ofNat 8)), .x 15),
  (.conv 5 (.x 15), .x 16),
  (.conv 5 (.x 5), .x 17),
  (.bytes [.i .u8 (.ofNat 1), .x 11, .x 13, .x 14, .x 16, .x 17, .i .u8 (.ofNat 1), .i .u8 (.ofNat 0)], .x 18),
  (.bin .add (.x 18) (.x 2), .x 19),
  (.bin .add (.x 19) (.s 1 0), .x 20),
  (.len (.x 20), .x 21),
  (.bin .lss (.x 21) (.i .i64 (.ofNat 8)), .b false),
  (.bin .rem (.x 21) (.i .i64 (.ofNat 8)), .x 22),
  (.bin .neq (.x 22) (.i .i64 (.ofNat 0)), .b false),
  (.bin .add (.x 20) (.x 3), .x 23),
  (.bin .neq (.x 23) (.s 0 0), .b true),
  (.idx (.x 23) (.i .i64 (.ofNat 0)), .i .u8 (.ofNat 1)),
  (.len (.x 23), .x 24),
  (.bin .lss (.x 24) (.i .i64 (.ofNat 8)), .b false),
  (.idx (.x 23) (.i .i64 (.ofNat 4)), .x 25),
  (.conv 3 (.x 25), .x 26),
  (.bin .shl (.x 26) (.i .u64 (.ofNat 8)), .x 27),
  (.bin .add (.i .i64 (.ofNat 8)) (.x 27), .x 28),
  (.idx (.x 23) (.i .i64 (.ofNat 5)), .x 29),
  (.conv 3 (.x 29), .x 30),
  (.bin .add (.x 28) (.x 30), .x 31),
  (.idx (.x 23) (.i .i64 (.ofNat 6)), .i .u8 (.ofNat 1)),
  (.bin .add (.x 31) (.i .i64 (.ofNat 1)), .x 32),
  (.bin .lss (.x 24) (.x 32), .b false),
  (.idx (.x 23) (.i .i64 (.ofNat 1)), .x 33),
  (.bin .eql (.x 33) (.i .u8 (.ofNat 0)), .b false),
  (.conv 3 (.x 33), .x 34),
  (.idx (.x 23) (.i .i64 (.ofNat 2)), .x 35),
  (.conv 3 (.x 35), .x 36),
  (.bin .shl (.x 36) (.i .u64 (.ofNat 8)), .x 37),
  (.idx (.x 23) (.i .i64 (.ofNat 3)), .x 38),
  (.conv 3 (.x 38), .x 39),
  (.bin .or (.x 37) (.x 39), .x 40),
  (.bin .sub (.x 32) (.i .i64 (.ofNat 1)), .x 41),
  (.sub (.x 23) (some (.i .i64 (.ofNat 8))) (some (.x 41)), .x 42),
  (.sub (.x 23) (some (.x 32)) none, .x 43),
  (.conv 3 (.x 4), .x 44),
  (.bin .rem (.x 44) (.x 21), .x 45),
  (.sub (.x 20) none (some (.x 45)), .x 46),
  (.bin .neq (.x 46) (.s 0 0), .b true),
  (.idx (.x 46) (.i .i64 (.ofNat 0)), .i .u8 (.ofNat 1)),
  (.len (.x 46), .x 47),
  (.bin .lss (.x 47) (.i .i64 (.ofNat 8)), .b false),
  (.idx (.x 46) (.i .i64 (.ofNat 4)), .x 48),
  (.conv 3 (.x 48), .x 49),
  (.bin .shl (.x 49) (.i .u64 (.ofNat 8)), .x 50),
  (.bin .add (.i .i64 (.ofNat 8)) (.x 50), .x 51),
  (.idx (.x 46) (.i .i64 (.ofNat 5)), .x 52),
  (.conv 3 (.x 52), .x 53),
  (.bin .add (.x 51) (.x 53), .x 54),
  (.idx (.x 46) (.i .i64 (.ofNat 6)), .i .u8 (.ofNat 1)),
  (.bin .add (.x 54) (.i .i64 (.ofNat 1)), .x 55),
  (.bin .lss (.x 47) (.x 55), .b true),
  (.eq 3 (.x 34) (.x 7), .b true),
  (.eq 3 (.x 40) (.x 8), .b true),
  (.eq 9 (.x 42) (.x 2), .b true),
  (.bin .eql (.x 43) (.x 3), .b true)]
noncomputable def tab23 : Tab := { tabk with hyp := hy23 }
theorem run23 : okB (call tab23 9000 3 [.x 0, .x 1, .x 2, .b true, .x 3, .x 4] ⟨H0 , 1, 0, 0⟩) = true := by kernel_rfl
def nu23 (t : Int) (id : Int) (c : List UInt8) (more : List UInt8) (cut : Int) : List Value := [.int .u8 (t),
  .int .u16 (id),
  St' c,
  St' more,
  .int .u16 (cut),
  .int .i64 ((c.length : Int)),
  .int .i64 ((more.length : Int)),
  .int .i64 (t),
  .int .i64 (id),
  .int .i64 (max ((c.length : Int)) 0),
  .int .i64 (-(max ((c.length : Int)) 0)),
  .int .u8 (t),
  .int .i64 (id / 256),
  .int .u8 (id / 256),
  .int .u8 (id % 256),
  .int .i64 (((c.length : Int)) / 256),
  .int .u8 ((((c.length : Int)) / 256) % 256),
  .int .u8 (((c.length : Int)) % 256),
  St' ([u8 1, u8 (t), u8 (id / 256), u8 (id % 256), u8 ((((c.length : Int)) / 256) % 256), u8 (((c.length : Int)) % 256), u8 1, u8 0]),
  St' (([u8 1, u8 (t), u8 (id / 256), u8 (id % 256), u8 ((((c.length : Int)) / 256) % 256), u8 (((c.length : Int)) % 256), u8 1, u8 0] ++ c)),
  St' (([u8 1, u8 (t), u8 (id / 256), u8 (id % 256), u8 ((((c.length : Int)) / 256) % 256), u8 (((c.length : Int)) % 256), u8 1, u8 0] ++ (c ++ [u8 0]))),
  .int .i64 ((c.length : Int) + 9),
  .int .i64 (((c.length : Int) + 9) % 8),
  St' (([u8 1, u8 (t), u8 (id / 256), u8 (id % 256), u8 ((((c.length : Int)) / 256) % 256), u8 (((c.length : Int)) % 256), u8 1, u8 0] ++ (c ++ ([u8 0] ++ more)))),
  .int .i64 ((c.length : Int) + (more.length : Int) + 9),
  .int .u8 ((((c.length : Int)) / 256) % 256),
  .int .i64 ((((c.length : Int)) / 256) % 256),
  .int .i64 (((((c.length : Int)) / 256) % 256) * 256),
  .int .i64 (8 + (((((c.length : Int)) / 256) % 256) * 256)),
  .int .u8 (((c.length : Int)) % 256),
  .int .i64 (((c.length : Int)) % 256),
  .int .i64 ((8 + (((((c.length : Int)) / 256) % 256) * 256)) + (((c.length : Int)) % 256)),
  .int .i64 (((8 + (((((c.length : Int)) / 256) % 256) * 256)) + (((c.length : Int)) % 256)) + 1),
  .int .u8 (t),
  .int .i64 (t),
  .int .u8 (id / 256),
  .int .i64 (id / 256),
  .int .i64 ((id / 256) * 256),
  .int .u8 (id % 256),
  .int .i64 (id % 256),
  .int .i64 (((id / 256) * 256) + (id % 256)),
  .int .i64 ((((8 + (((((c.length : Int)) / 256) % 256) * 256)) + (((c.length : Int)) % 256)) + 1) - 1),
  St' c,
  St' more,
  .int .i64 (cut),
  .int .i64 (cut % ((c.length : Int) + 9)),
  St' ((List.take (cut % ((c.length : Int) + 9)).toNat (([u8 1, u8 (t), u8 (id / 256), u8 (id % 256), u8 ((((c.length : Int)) / 256) % 256), u8 (((c.length : Int)) % 256), u8 1, u8 0] ++ (c ++ [u8 0]))))),
  .int .i64 ((cut % ((c.length : Int) + 9))),
  .int .u8 ((((c.length : Int)) / 256) % 256),
  .int .i64 ((((c.length : Int)) / 256) % 256),
  .int .i64 (((((c.length : Int)) / 256) % 256) * 256),
  .int .i64 (8 + (((((c.length : Int)) / 256) % 256) * 256)),
  .int .u8 (((c.length : Int)) % 256),
  .int .i64 (((c.length : Int)) % 256),
  .int .i64 ((8 + (((((c.length : Int)) / 256) % 256) * 256)) + (((c.length : Int)) % 256)),
  .int .i64 (((8 + (((((c.length : Int)) / 256) % 256) * 256)) + (((c.length : Int)) % 256)) + 1)]
theorem one23 (t : Int) (id : Int) (c : List UInt8) (more : List UInt8) (cut : Int) : ∀ j, (nuL (nu23 t id c more cut) j).oneCell' = true := nuL_one (l := nu23 t id c more cut) rfl
set_option maxHeartbeats 2000000 in
theorem hyOk23 (t : Int) (id : Int) (c : List UInt8) (more : List UInt8) (cut : Int) (b0 : 0 ≤ t) (b1 : t ≤ 255) (b2 : 0 ≤ id) (b3 : id ≤ 65535) (b4 : c.length ≤ 9223372036854775807) (b5 : more.length ≤ 9223372036854775807) (b6 : 0 ≤ cut) (b7 : cut ≤ 65535) (h0 : ¬ (2000 < (c.length : Int))) (h1 : ¬ (200 < (more.length : Int))) (h2 : ¬ (t = 0)) (h3 : ¬ ((-(max ((c.length : Int)) 0)) % 8 = 0)) (h4 : (-(max ((c.length : Int)) 0)) % 8 = 1) (h16 : ¬ ((cut % ((c.length : Int) + 9)) = 0)) (h17 : ¬ ((cut % ((c.length : Int) + 9)) < 8)) : ∀ k r, (k, r) ∈ hy23 → HOk (cx (nuL (nu23 t id c more cut)) (one23 t id c more cut) 0 laidE laidE_stab) k r := by
  have := Int.emod_nonneg cut (show ((c.length : Int) + 9) ≠ 0 by omega); have := Int.emod_lt_of_pos cut (show 0 < ((c.length : Int) + 9) by omega)
  unfold hy23
  refine hcons (kLenE (isX rfl) (denX rfl) (by first | omega | (simp only [List.length_append, List.length_cons, List.length_nil, List.length_take, List.length_drop, Int.natCast_add] at *; omega))) ?_
  refine hcons (kGt (isX rfl) (isZ (m := 2000) rfl) (decide_eq_false (by omega))) ?_
  refine hcons (kLenE (isX rfl) (denX rfl) (by first | omega | (simp only [List.length_append, List.length_cons, List.length_nil, List.length_take, List.length_drop, Int.natCast_add] at *; omega))) ?_
  refine hcons (kGt (isX rfl) (isZ (m := 200) rfl) (decide_eq_false (by omega))) ?_
  refine hcons (kEqI (isX rfl) (isZ (m := 0) rfl) (decide_eq_false (by omega))) ?_
  refine hcons (kConvF (isX rfl) tu3 (denX rfl) (fI64 (by omega) (by omega))) ?_
  refine hcons (kConvF (isX rfl) tu3 (denX rfl) (fI64 (by omega) (by omega))) ?_
  refine hcons (kMax (isX rfl) (isZ (m := 0) rfl) (denX rfl) rfl) ?_
  refine hcons (kNeg (isX rfl) (denX rfl) rfl (fI64 (by omega) (by omega))) ?_
  refine hcons (kAndG 3 8 rfl (by decide) (isX rfl) (isZ (m := 7) rfl) (denZ (m := 1) rfl) (fI64 (by omega) (by omega)) rfl (by omega) (fI64 (by omega) (by omega))) ?_
  refine hcons (kGe (isX rfl) (isZ (m := 1) rfl) (decide_eq_true (by omega))) ?_
  refine hcons (kLe (isX rfl) (isZ (m := 255) rfl) (decide_eq_true (by omega))) ?_
  refine hcons (kGe (isX rfl) (isZ (m := 0) rfl) (decide_eq_true (by omega))) ?_
  refine hcons (kLe (isX rfl) (isZ (m := 65535) rfl) (decide_eq_true (by omega))) ?_
  refine hcons (kLe (isX rfl) (isZ (m := 65535) rfl) (decide_eq_true (by omega))) ?_
  refine hcons (kConvF (isX rfl) tu5 (denX rfl) (fU8 (by omega) (by omega))) ?_
  refine hcons (kShrM 8 256 rfl (isX rfl) (isZ (m := 8) rfl) (denX rfl) rfl (by decide) (by omega) rfl) ?_
  refine hcons (kConvF (isX rfl) tu5 (denX rfl) (fU8 (by omega) (by omega))) ?_
  refine hcons (kConv8 (isX rfl) tu5 (denX rfl) rfl) ?_
  refine hcons (kShrM 8 256 rfl (isX rfl) (isZ (m := 8) rfl) (denX rfl) rfl (by decide) (by omega) rfl) ?_
  refine hcons (kConv8 (isX rfl) tu5 (denX rfl) rfl) ?_
  refine hcons (kConv8 (isX rfl) tu5 (denX rfl) rfl) ?_
  refine hcons (kBytesB (bs := [u8 1, u8 (t), u8 (id / 256), u8 (id % 256), u8 ((((c.length : Int)) / 256) % 256), u8 (((c.length : Int)) % 256), u8 1, u8 0]) (.cons (isB8 (isZ (m := 1) rfl) (by omega) (by omega)) (.cons (isB8 (isX rfl) (by omega) (by omega)) (.cons (isB8 (isX rfl) (by omega) (by omega)) (.cons (isB8 (isX rfl) (by omega) (by omega)) (.cons (isB8 (isX rfl) (by omega) (by omega)) (.cons (isB8 (isX rfl) (by omega) (by omega)) (.cons (isB8 (isZ (m := 1) rfl) (by omega) (by omega)) (.cons (isB8 (isZ (m := 0) rfl) (by omega) (by omega)) .nil)))))))) (denX rfl)) ?_
  refine hcons (kCat (isX rfl) (isX rfl) (denX rfl) (by first | rfl | (simp only [List.append_assoc, List.cons_append, List.nil_append, List.append_nil]; done)) (by first | omega | (simp only [List.length_append, List.length_cons, List.length_nil, List.length_take, List.length_drop, Int.natCast_add] at *; omega))) ?_
  refine hcons (kCat (isX rfl) (isSx (l := [u8 0]) 1 0 rfl) (denX rfl) (by first | rfl | (simp only [List.append_assoc, List.cons_append, List.nil_append, List.append_nil]; done)) (by first | omega | (simp only [List.length_append, List.length_cons, List.length_nil, List.length_take, List.length_drop, Int.natCast_add] at *; omega))) ?_
  refine hcons (kLenE (isX rfl) (denX rfl) (by first | omega | (simp only [List.length_append, List.length_cons, List.length_nil, List.length_take, List.length_drop, Int.natCast_add] at *; omega))) ?_
  refine hcons (kLt (isX rfl) (isZ (m := 8) rfl) (decide_eq_false (by omega))) ?_
  refine hcons (kRem (isX rfl) (isZ (m := 8) rfl) (denX rfl) (by omega) (by omega) rfl) ?_
  refine hcons (kNeI (isX rfl) (isZ (m := 0) rfl) (neF (by omega))) ?_
  refine hcons (kCat (isX rfl) (isX rfl) (denX rfl) (by first | rfl | (simp only [List.append_assoc, List.cons_append, List.nil_append, List.append_nil]; done)) (by first | omega | (simp only [List.length_append, List.length_cons, List.length_nil, List.length_take, List.length_drop, Int.natCast_add] at *; omega))) ?_
  refine hcons (kNeS (isX rfl) (isSx (l := ([] : List UInt8)) 0 0 rfl) (bnT (by first | exact nilT (by first | omega | (simp only [List.length_append, List.length_cons, List.length_nil, List.length_take, List.length_drop, Int.natCast_add] at *; omega)) | exact nilF (by first | omega | (simp only [List.length_append, List.length_cons, List.length_nil, List.length_take, List.length_drop, Int.natCast_add] at *; omega)) | exact nilT' (by first | omega | (simp only [List.length_append, List.length_cons, List.length_nil, List.length_take, List.length_drop, Int.natCast_add] at *; omega)) | exact nilF' (by first | omega | (simp only [List.length_append, List.length_cons, List.length_nil, List.length_take, List.length_drop, Int.natCast_add] at *; omega))))) ?_
  refine hcons (kIdxE (i := 0) (isX rfl) (isZ (m := 0) rfl) (denZ (m := 1) rfl) rfl (by first | omega | (simp only [List.length_append, List.length_cons, List.length_nil, List.length_take, List.length_drop, Int.natCast_add] at *; omega)) (bt_at rfl (by omega) (by omega))) ?_
  refine hcons (kLenE (isX rfl) (denX rfl) (by first | omega | (simp only [List.length_append, List.length_cons, List.length_nil, List.length_take, List.length_drop, Int.natCast_add] at *; omega))) ?_
  refine hcons (kLt (isX rfl) (isZ (m := 8) rfl) (decide_eq_false (by omega))) ?_
  refine hcons (kIdxE (i := 4) (isX rfl) (isZ (m := 4) rfl) (denX rfl) rfl (by first | omega | (simp only [List.length_append, List.length_cons, List.length_nil, List.length_take, List.length_drop, Int.natCast_add] at *; omega)) (bt_at rfl (by omega) (by omega))) ?_
  refine hcons (kConvF (isX rfl) tu3 (denX rfl) (fI64 (by omega) (by omega))) ?_
  refine hcons (kShlM 8 256 rfl (isX rfl) (isZ (m := 8) rfl) (denX rfl) rfl (by decide) rfl (fI64 (by omega) (by omega))) ?_
  refine hcons (kAdd (isZ (m := 8) rfl) (isX rfl) (denX rfl) rfl (fI64 (by omega) (by omega))) ?_
  refine hcons (kIdxE (i := 5) (isX rfl) (isZ (m := 5) rfl) (denX rfl) rfl (by first | omega | (simp only [List.length_append, List.length_cons, List.length_nil, List.length_take, List.length_drop, Int.natCast_add] at *; omega)) (bt_at rfl (by omega) (by omega))) ?_
  refine hcons (kConvF (isX rfl) tu3 (denX rfl) (fI64 (by omega) (by omega))) ?_
  refine hcons (kAdd (isX rfl) (isX rfl) (denX rfl) rfl (fI64 (by omega) (by omega))) ?_
  refine hcons (kIdxE (i := 6) (isX rfl) (isZ (m := 6) rfl) (denZ (m := 1) rfl) rfl (by first | omega | (simp only [List.length_append, List.length_cons, List.length_nil, List.length_take, List.length_drop, Int.natCast_add] at *; omega)) (bt_at rfl (by omega) (by omega))) ?_
  refine hcons (kAdd (isX rfl) (isZ (m := 1) rfl) (denX rfl) rfl (fI64 (by omega) (by omega))) ?_
  refine hcons (kLt (isX rfl) (isX rfl) (decide_eq_false (by omega))) ?_
  refine hcons (kIdxE (i := 1) (isX rfl) (isZ (m := 1) rfl) (denX rfl) rfl (by first | omega | (simp only [List.length_append, List.length_cons, List.length_nil, List.length_take, List.length_drop, Int.natCast_add] at *; omega)) (bt_at rfl (by omega) (by omega))) ?_
  refine hcons (kEqI (isX rfl) (isZ (m := 0) rfl) (decide_eq_false (by omega))) ?_
  refine hcons (kConvF (isX rfl) tu3 (denX rfl) (fI64 (by omega) (by omega))) ?_
  refine hcons (kIdxE (i := 2) (isX rfl) (isZ (m := 2) rfl) (denX rfl) rfl (by first | omega | (simp only [List.length_append, List.length_cons, List.length_nil, List.length_take, List.length_drop, Int.natCast_add] at *; omega)) (bt_at rfl (by omega) (by omega))) ?_
  refine hcons (kConvF (isX rfl) tu3 (denX rfl) (fI64 (by omega) (by omega))) ?_
  refine hcons (kShlM 8 256 rfl (isX rfl) (isZ (m := 8) rfl) (denX rfl) rfl (by decide) rfl (fI64 (by omega) (by omega))) ?_
  refine hcons (kIdxE (i := 3) (isX rfl) (isZ (m := 3) rfl) (denX rfl) rfl (by first | omega | (simp only [List.length_append, List.length_cons, List.length_nil, List.length_take, List.length_drop, Int.natCast_add] at *; omega)) (bt_at rfl (by omega) (by omega))) ?_
  refine hcons (kConvF (isX rfl) tu3 (denX rfl) (fI64 (by omega) (by omega))) ?_
  refine hcons (kOrM 8 256 rfl (isX rfl) (isX rfl) (denX rfl) (by omega) (by omega) (fI64 (by omega) (by omega)) (fI64 (by omega) (by omega)) (by omega) (by omega) rfl (fI64 (by omega) (by omega))) ?_
  refine hcons (kSub (isX rfl) (isZ (m := 1) rfl) (denX rfl) rfl (fI64 (by omega) (by omega))) ?_
  refine hcons (kCut (isX rfl) (.inr ⟨_, _, rfl, (isZ (m := 8) rfl)⟩) (.inr ⟨_, _, rfl, (isX rfl)⟩) (p := [u8 1, u8 (t), u8 (id / 256), u8 (id % 256), u8 ((((c.length : Int)) / 256) % 256), u8 (((c.length : Int)) % 256), u8 1, u8 0]) (m := c) (q := ([u8 0] ++ more)) (by first | rfl | (simp only [List.append_assoc, List.cons_append, List.nil_append, List.append_nil]; done)) (by first | omega | (simp only [List.length_append, List.length_cons, List.length_nil, List.length_take, List.length_drop, Int.natCast_add] at *; omega)) (by first | omega | (simp only [List.length_append, List.length_cons, List.length_nil, List.length_take, List.length_drop, Int.natCast_add] at *; omega)) (denX rfl)) ?_
  refine hcons (kCut (isX rfl) (.inr ⟨_, _, rfl, (isX rfl)⟩) (.inl ⟨rfl, rfl⟩) (p := ([u8 1, u8 (t), u8 (id / 256), u8 (id % 256), u8 ((((c.length : Int)) / 256) % 256), u8 (((c.length : Int)) % 256), u8 1, u8 0] ++ (c ++ [u8 0]))) (m := more) (q := ([] : List UInt8)) (by first | rfl | (simp only [List.append_assoc, List.cons_append, List.nil_append, List.append_nil]; done)) (by first | omega | (simp only [List.length_append, List.length_cons, List.length_nil, List.length_take, List.length_drop, Int.natCast_add] at *; omega)) (by first | omega | (simp only [List.length_append, List.length_cons, List.length_nil, List.length_take, List.length_drop, Int.natCast_add] at *; omega)) (denX rfl)) ?_
  refine hcons (kConvF (isX rfl) tu3 (denX rfl) (fI64 (by omega) (by omega))) ?_
  refine hcons (kRem (isX rfl) (isX rfl) (denX rfl) (by omega) (by omega) rfl) ?_
  refine hcons (kTake (isX rfl) (isX rfl) (by first | omega | (simp only [List.length_append, List.length_cons, List.length_nil, List.length_take, List.length_drop, Int.natCast_add] at *; omega)) (by first | omega | (simp only [List.length_append, List.length_cons, List.length_nil, List.length_take, List.length_drop, Int.natCast_add] at *; omega)) (denX rfl)) ?_
  refine hcons (kNeS (isX rfl) (isSx (l := ([] : List UInt8)) 0 0 rfl) (bnT (by first | exact nilT (by first | omega | (simp only [List.length_append, List.length_cons, List.length_nil, List.length_take, List.length_drop, Int.natCast_add] at *; omega)) | exact nilF (by first | omega | (simp only [List.length_append, List.length_cons, List.length_nil, List.length_take, List.length_drop, Int.natCast_add] at *; omega)) | exact nilT' (by first | omega | (simp only [List.length_append, List.length_cons, List.length_nil, List.length_take, List.length_drop, Int.natCast_add] at *; omega)) | exact nilF' (by first | omega | (simp only [List.length_append, List.length_cons, List.length_nil, List.length_take, List.length_drop, Int.natCast_add] at *; omega))))) ?_
  refine hcons (kIdxE (i := 0) (isX rfl) (isZ (m := 0) rfl) (denZ (m := 1) rfl) rfl (by first | omega | (simp only [List.length_append, List.length_cons, List.length_nil, List.length_take, List.length_drop, Int.natCast_add] at *; omega)) ((bt_take (by omega)).trans (bt_at rfl (by omega) (by omega)))) ?_
  refine hcons (kLenE (isX rfl) (denX rfl) (by first | omega | (simp only [List.length_append, List.length_cons, List.length_nil, List.length_take, List.length_drop, Int.natCast_add] at *; omega))) ?_
  refine hcons (kLt (isX rfl) (isZ (m := 8) rfl) (decide_eq_false (by omega))) ?_
  refine hcons (kIdxE (i := 4) (isX rfl) (isZ (m := 4) rfl) (denX rfl) rfl (by first | omega | (simp only [List.length_append, List.length_cons, List.length_nil, List.length_take, List.length_drop, Int.natCast_add] at *; omega)) ((bt_take (by omega)).trans (bt_at rfl (by omega) (by omega)))) ?_
  refine hcons (kConvF (isX rfl) tu3 (denX rfl) (fI64 (by omega) (by omega))) ?_
  refine hcons (kShlM 8 256 rfl (isX rfl) (isZ (m := 8) rfl) (denX rfl) rfl (by decide) rfl (fI64 (by omega) (by omega))) ?_
  refine hcons (kAdd (isZ (m := 8) rfl) (isX rfl) (denX rfl) rfl (fI64 (by omega) (by omega))) ?_
  refine hcons (kIdxE (i := 5) (isX rfl) (isZ (m := 5) rfl) (denX rfl) rfl (by first | omega | (simp only [List.length_append, List.length_cons, List.length_nil, List.length_take, List.length_drop, Int.natCast_add] at *; omega)) ((bt_take (by omega)).trans (bt_at rfl (by omega) (by omega)))) ?_
  refine hcons (kConvF (isX rfl) tu3 (denX rfl) (fI64 (by omega) (by omega))) ?_
  refine hcons (kAdd (isX rfl) (isX rfl) (denX rfl) rfl (fI64 (by omega) (by omega))) ?_
  refine hcons (kIdxE (i := 6) (isX rfl) (isZ (m := 6) rfl) (denZ (m := 1) rfl) rfl (by first | omega | (simp only [List.length_append, List.length_cons, List.length_nil, List.length_take, List.length_drop, Int.natCast_add] at *; omega)) ((bt_take (by omega)).trans (bt_at rfl (by omega) (by omega)))) ?_
  refine hcons (kAdd (isX rfl) (isZ (m := 1) rfl) (denX rfl) rfl (fI64 (by omega) (by omega))) ?_
  refine hcons (kLt (isX rfl) (isX rfl) (decide_eq_true (by omega))) ?_
  refine hcons (kEqT (isX rfl) (isX rfl) tu3 (decide_eq_true (by omega))) ?_
  refine hcons (kEqT (isX rfl) (isX rfl) tu3 (decide_eq_true (by omega))) ?_
  refine hcons (kEqTS (isX rfl) (isX rfl) tu9 (decide_eq_true rfl)) ?_
  refine hcons (kEqS (isX rfl) (isX rfl) (decide_eq_true rfl)) ?_
  exact hnil
theorem path23 (t : Int) (id : Int) (c : List UInt8) (more : List UInt8) (cut : Int) (b0 : 0 ≤ t) (b1 : t ≤ 255) (b2 : 0 ≤ id) (b3 : id ≤ 65535) (b4 : c.length ≤ 9223372036854775807) (b5 : more.length ≤ 9223372036854775807) (b6 : 0 ≤ cut) (b7 : cut ≤ 65535) (h0 : ¬ (2000 < (c.length : Int))) (h1 : ¬ (200 < (more.length : Int))) (h2 : ¬ (t = 0)) (h3 : ¬ ((-(max ((c.length : Int)) 0)) % 8 = 0)) (h4 : (-(max ((c.length : Int)) 0)) % 8 = 1) (h16 : ¬ ((cut % ((c.length : Int) + 9)) = 0)) (h17 : ¬ ((cut % ((c.length : Int) + 9)) < 8)) (w : World) (hl : laidE w) : Calls Try.prog 3 #[.int .u8 t, .int .u16 id, St' c, .bool true, St' more, .int .u16 cut] w fun e w' => e = .returned (.bool true) ∧ Go.AX.Below w.heap.size w w' := by
  obtain ⟨fi, hfi, hb⟩ : ∃ fi, tabk.fn.get 3 = some fi ∧ fi.body.isSome = true := ⟨_, rfl, by kernel_rfl⟩
  exact runP (tb := tab23) ((tabkOk (nuL (nu23 t id c more cut)) (one23 t id c more cut)).hyps (hyOk23 t id c more cut b0 b1 b2 b3 b4 b5 b6 b7 h0 h1 h2 h3 h4 h16 h17)) rfl hfi hb (run23 ) (args := [.int .u8 t, .int .u16 id, St' c, .bool true, St' more, .int .u16 cut]) (by simp only [RelL, Rel]; exact ⟨_, _, rfl, rfl, ⟨_, _, rfl, rfl, ⟨_, _, rfl, rfl, ⟨_, _, rfl, rfl, ⟨_, _, rfl, rfl, ⟨_, _, rfl, rfl, rfl⟩⟩⟩⟩⟩⟩) w hl
end Go.Proofs.Ytejdkoheodambaa.recordBack
