/- A part of the proof: an interpreter of the model's own code on partly known states, and that what it answers is what the program answers. No condition of its own. -/
import Derived.Test.YtejdkoheodambaaB1KindBackO
set_option maxRecDepth 100000
set_option linter.unusedVariables false
set_option linter.unusedSimpArgs false
namespace Go.Proofs.Ytejdkoheodambaa.kindBack
open Go Go.AX Go.Proofs Go.Proofs.Ytejdkoheodambaa
def hy0 : List (HK × AV) := [(.conv 3 (.x 0), .x 4),
  (.conv 3 (.x 2), .x 5),
  (.bin .shr (.x 1) (.i .u64 (.ofNat 24)), .x 6),
  (.conv 5 (.x 6), .x 7),
  (.bin .shr (.x 1) (.i .u64 (.ofNat 16)), .x 8),
  (.conv 5 (.x 8), .x 9),
  (.bin .shr (.x 1) (.i .u64 (.ofNat 8)), .x 10),
  (.conv 5 (.x 10), .x 11),
  (.conv 5 (.x 1), .x 12),
  (.conv 5 (.x 5), .x 13),
  (.bytes [.x 7, .x 9, .x 11, .x 12, .x 13], .x 14),
  (.len (.x 14), .i .i64 (.ofNat 5)),
  (.bin .add (.x 14) (.s 3 0), .x 15),
  (.len (.x 15), .i .i64 (.ofNat 8)),
  (.idx (.x 15) (.i .i64 (.ofNat 0)), .x 16),
  (.conv 37 (.x 16), .x 17),
  (.bin .shl (.x 17) (.i .u64 (.ofNat 24)), .x 18),
  (.idx (.x 15) (.i .i64 (.ofNat 1)), .x 19),
  (.conv 37 (.x 19), .x 20),
  (.bin .shl (.x 20) (.i .u64 (.ofNat 16)), .x 21),
  (.bin .or (.x 18) (.x 21), .x 22),
  (.idx (.x 15) (.i .i64 (.ofNat 2)), .x 23),
  (.conv 37 (.x 23), .x 24),
  (.bin .shl (.x 24) (.i .u64 (.ofNat 8)), .x 25),
  (.bin .or (.x 22) (.x 25), .x 26),
  (.idx (.x 15) (.i .i64 (.ofNat 3)), .x 27),
  (.conv 37 (.x 27), .x 28),
  (.bin .or (.x 26) (.x 28), .x 29),
  (.idx (.x 15) (.i .i64 (.ofNat 4)), .x 30),
  (.conv 3 (.x 30), .x 31),
  (.bytes [.i .u8 (.ofNat 0), .i .u8 (.ofNat 1), .x 3, .i .u8 (.ofNat 0), .i .u8 (.ofNat 0), .i .u8 (.ofNat 0), .i .u8 (.ofNat 0), .i .u8 (.ofNat 0)], .x 32),
  (.len (.x 32), .i .i64 (.ofNat 8)),
  (.idx (.x 32) (.i .i64 (.ofNat 0)), .i .u8 (.ofNat 0)),
  (.idx (.x 32) (.i .i64 (.ofNat 1)), .i .u8 (.ofNat 1)),
  (.idx (.x 32) (.i .i64 (.ofNat 2)), .x 33),
  (.bin .and (.x 33) (.i .u8 (.ofNat 1)), .x 34),
  (.bin .neq (.x 34) (.i .u8 (.ofNat 0)), .b false),
  (.bin .eql (.x 29) (.x 1), .b true),
  (.bin .eql (.x 31) (.x 5), .b true),
  (.bin .rem (.x 3) (.i .u8 (.ofNat 2)), .x 35),
  (.bin .eql (.x 35) (.i .u8 (.ofNat 1)), .b false)]
noncomputable def tab0 : Tab := { tabk with hyp := hy0 }
theorem run0 : okB (call tab0 9000 5 [.x 0, .b false, .x 1, .x 2, .x 3] ⟨H0 , 1, 0, 0⟩) = true := by kernel_rfl
def nu0 (id : Int) (app : Int) (pr : Int) (fl : Int) : List Value := [.int .u16 (id),
  .int .u32 (app),
  .int .u8 (pr),
  .int .u8 (fl),
  .int .i64 (id),
  .int .i64 (pr),
  .int .u32 (app / 16777216),
  .int .u8 (app / 16777216),
  .int .u32 (app / 65536),
  .int .u8 ((app / 65536) % 256),
  .int .u32 (app / 256),
  .int .u8 ((app / 256) % 256),
  .int .u8 (app % 256),
  .int .u8 (pr),
  St' ([u8 (app / 16777216), u8 ((app / 65536) % 256), u8 ((app / 256) % 256), u8 (app % 256), u8 (pr)]),
  St' ([u8 (app / 16777216), u8 ((app / 65536) % 256), u8 ((app / 256) % 256), u8 (app % 256), u8 (pr), u8 0, u8 0, u8 0]),
  .int .u8 (app / 16777216),
  .int .u32 (app / 16777216),
  .int .u32 ((app / 16777216) * 16777216),
  .int .u8 ((app / 65536) % 256),
  .int .u32 ((app / 65536) % 256),
  .int .u32 (((app / 65536) % 256) * 65536),
  .int .u32 (((app / 16777216) * 16777216) + (((app / 65536) % 256) * 65536)),
  .int .u8 ((app / 256) % 256),
  .int .u32 ((app / 256) % 256),
  .int .u32 (((app / 256) % 256) * 256),
  .int .u32 ((((app / 16777216) * 16777216) + (((app / 65536) % 256) * 65536)) + (((app / 256) % 256) * 256)),
  .int .u8 (app % 256),
  .int .u32 (app % 256),
  .int .u32 (((((app / 16777216) * 16777216) + (((app / 65536) % 256) * 65536)) + (((app / 256) % 256) * 256)) + (app % 256)),
  .int .u8 (pr),
  .int .i64 (pr),
  St' ([u8 0, u8 1, u8 (fl), u8 0, u8 0, u8 0, u8 0, u8 0]),
  .int .u8 (fl),
  .int .u8 (fl % 2),
  .int .u8 (fl % 2)]
theorem one0 (id : Int) (app : Int) (pr : Int) (fl : Int) : ∀ j, (nuL (nu0 id app pr fl) j).oneCell' = true := nuL_one (l := nu0 id app pr fl) rfl
set_option maxHeartbeats 2000000 in
theorem hyOk0 (id : Int) (app : Int) (pr : Int) (fl : Int) (b0 : 0 ≤ id) (b1 : id ≤ 65535) (b2 : 0 ≤ app) (b3 : app ≤ 4294967295) (b4 : 0 ≤ pr) (b5 : pr ≤ 255) (b6 : 0 ≤ fl) (b7 : fl ≤ 255) (h0 : fl % 2 = 0) : ∀ k r, (k, r) ∈ hy0 → HOk (cx (nuL (nu0 id app pr fl)) (one0 id app pr fl) 0 laidE laidE_stab) k r := by
  unfold hy0
  refine hcons (kConvF (isX rfl) tu3 (denX rfl) (fI64 (by omega) (by omega))) ?_
  refine hcons (kConvF (isX rfl) tu3 (denX rfl) (fI64 (by omega) (by omega))) ?_
  refine hcons (kShrM 24 16777216 rfl (isX rfl) (isZ (m := 24) rfl) (denX rfl) rfl (by decide) (by omega) rfl) ?_
  refine hcons (kConvF (isX rfl) tu5 (denX rfl) (fU8 (by omega) (by omega))) ?_
  refine hcons (kShrM 16 65536 rfl (isX rfl) (isZ (m := 16) rfl) (denX rfl) rfl (by decide) (by omega) rfl) ?_
  refine hcons (kConv8 (isX rfl) tu5 (denX rfl) rfl) ?_
  refine hcons (kShrM 8 256 rfl (isX rfl) (isZ (m := 8) rfl) (denX rfl) rfl (by decide) (by omega) rfl) ?_
  refine hcons (kConv8 (isX rfl) tu5 (denX rfl) rfl) ?_
  refine hcons (kConv8 (isX rfl) tu5 (denX rfl) rfl) ?_
  refine hcons (kConvF (isX rfl) tu5 (denX rfl) (fU8 (by omega) (by omega))) ?_
  refine hcons (kBytesB (bs := [u8 (app / 16777216), u8 ((app / 65536) % 256), u8 ((app / 256) % 256), u8 (app % 256), u8 (pr)]) (.cons (isB8 (isX rfl) (by omega) (by omega)) (.cons (isB8 (isX rfl) (by omega) (by omega)) (.cons (isB8 (isX rfl) (by omega) (by omega)) (.cons (isB8 (isX rfl) (by omega) (by omega)) (.cons (isB8 (isX rfl) (by omega) (by omega)) .nil))))) (denX rfl)) ?_
  refine hcons (kLenE (isX rfl) (denZ (m := 5) rfl) (by first | omega | (simp only [List.length_append, List.length_cons, List.length_nil, List.length_take, List.length_drop, Int.natCast_add] at *; omega))) ?_
  refine hcons (kCat (isX rfl) (isSx (l := [u8 0, u8 0, u8 0]) 3 0 rfl) (denX rfl) (by first | rfl | (simp only [List.append_assoc, List.cons_append, List.nil_append, List.append_nil]; done)) (by first | omega | (simp only [List.length_append, List.length_cons, List.length_nil, List.length_take, List.length_drop, Int.natCast_add] at *; omega))) ?_
  refine hcons (kLenE (isX rfl) (denZ (m := 8) rfl) (by first | omega | (simp only [List.length_append, List.length_cons, List.length_nil, List.length_take, List.length_drop, Int.natCast_add] at *; omega))) ?_
  refine hcons (kIdxE (i := 0) (isX rfl) (isZ (m := 0) rfl) (denX rfl) rfl (by first | omega | (simp only [List.length_append, List.length_cons, List.length_nil, List.length_take, List.length_drop, Int.natCast_add] at *; omega)) (bt_at rfl (by omega) (by omega))) ?_
  refine hcons (kConvF (isX rfl) tu37 (denX rfl) (fU32 (by omega) (by omega))) ?_
  refine hcons (kShlM 24 16777216 rfl (isX rfl) (isZ (m := 24) rfl) (denX rfl) rfl (by decide) rfl (fU32 (by omega) (by omega))) ?_
  refine hcons (kIdxE (i := 1) (isX rfl) (isZ (m := 1) rfl) (denX rfl) rfl (by first | omega | (simp only [List.length_append, List.length_cons, List.length_nil, List.length_take, List.length_drop, Int.natCast_add] at *; omega)) (bt_at rfl (by omega) (by omega))) ?_
  refine hcons (kConvF (isX rfl) tu37 (denX rfl) (fU32 (by omega) (by omega))) ?_
  refine hcons (kShlM 16 65536 rfl (isX rfl) (isZ (m := 16) rfl) (denX rfl) rfl (by decide) rfl (fU32 (by omega) (by omega))) ?_
  refine hcons (kOrM 24 16777216 rfl (isX rfl) (isX rfl) (denX rfl) (by omega) (by omega) (fU32 (by omega) (by omega)) (fU32 (by omega) (by omega)) (by omega) (by omega) rfl (fU32 (by omega) (by omega))) ?_
  refine hcons (kIdxE (i := 2) (isX rfl) (isZ (m := 2) rfl) (denX rfl) rfl (by first | omega | (simp only [List.length_append, List.length_cons, List.length_nil, List.length_take, List.length_drop, Int.natCast_add] at *; omega)) (bt_at rfl (by omega) (by omega))) ?_
  refine hcons (kConvF (isX rfl) tu37 (denX rfl) (fU32 (by omega) (by omega))) ?_
  refine hcons (kShlM 8 256 rfl (isX rfl) (isZ (m := 8) rfl) (denX rfl) rfl (by decide) rfl (fU32 (by omega) (by omega))) ?_
  refine hcons (kOrM 16 65536 rfl (isX rfl) (isX rfl) (denX rfl) (by omega) (by omega) (fU32 (by omega) (by omega)) (fU32 (by omega) (by omega)) (by omega) (by omega) rfl (fU32 (by omega) (by omega))) ?_
  refine hcons (kIdxE (i := 3) (isX rfl) (isZ (m := 3) rfl) (denX rfl) rfl (by first | omega | (simp only [List.length_append, List.length_cons, List.length_nil, List.length_take, List.length_drop, Int.natCast_add] at *; omega)) (bt_at rfl (by omega) (by omega))) ?_
  refine hcons (kConvF (isX rfl) tu37 (denX rfl) (fU32 (by omega) (by omega))) ?_
  refine hcons (kOrM 8 256 rfl (isX rfl) (isX rfl) (denX rfl) (by omega) (by omega) (fU32 (by omega) (by omega)) (fU32 (by omega) (by omega)) (by omega) (by omega) rfl (fU32 (by omega) (by omega))) ?_
  refine hcons (kIdxE (i := 4) (isX rfl) (isZ (m := 4) rfl) (denX rfl) rfl (by first | omega | (simp only [List.length_append, List.length_cons, List.length_nil, List.length_take, List.length_drop, Int.natCast_add] at *; omega)) (bt_at rfl (by omega) (by omega))) ?_
  refine hcons (kConvF (isX rfl) tu3 (denX rfl) (fI64 (by omega) (by omega))) ?_
  refine hcons (kBytesB (bs := [u8 0, u8 1, u8 (fl), u8 0, u8 0, u8 0, u8 0, u8 0]) (.cons (isB8 (isZ (m := 0) rfl) (by omega) (by omega)) (.cons (isB8 (isZ (m := 1) rfl) (by omega) (by omega)) (.cons (isB8 (isX rfl) (by omega) (by omega)) (.cons (isB8 (isZ (m := 0) rfl) (by omega) (by omega)) (.cons (isB8 (isZ (m := 0) rfl) (by omega) (by omega)) (.cons (isB8 (isZ (m := 0) rfl) (by omega) (by omega)) (.cons (isB8 (isZ (m := 0) rfl) (by omega) (by omega)) (.cons (isB8 (isZ (m := 0) rfl) (by omega) (by omega)) .nil)))))))) (denX rfl)) ?_
  refine hcons (kLenE (isX rfl) (denZ (m := 8) rfl) (by first | omega | (simp only [List.length_append, List.length_cons, List.length_nil, List.length_take, List.length_drop, Int.natCast_add] at *; omega))) ?_
  refine hcons (kIdxE (i := 0) (isX rfl) (isZ (m := 0) rfl) (denZ (m := 0) rfl) rfl (by first | omega | (simp only [List.length_append, List.length_cons, List.length_nil, List.length_take, List.length_drop, Int.natCast_add] at *; omega)) (bt_at rfl (by omega) (by omega))) ?_
  refine hcons (kIdxE (i := 1) (isX rfl) (isZ (m := 1) rfl) (denZ (m := 1) rfl) rfl (by first | omega | (simp only [List.length_append, List.length_cons, List.length_nil, List.length_take, List.length_drop, Int.natCast_add] at *; omega)) (bt_at rfl (by omega) (by omega))) ?_
  refine hcons (kIdxE (i := 2) (isX rfl) (isZ (m := 2) rfl) (denX rfl) rfl (by first | omega | (simp only [List.length_append, List.length_cons, List.length_nil, List.length_take, List.length_drop, Int.natCast_add] at *; omega)) (bt_at rfl (by omega) (by omega))) ?_
  refine hcons (kAndM 1 2 rfl (isX rfl) (isZ (m := 1) rfl) (denX rfl) (by omega) (fU8 (by omega) (by omega)) (fU8 (by omega) (by omega)) rfl rfl) ?_
  refine hcons (kNeI (isX rfl) (isZ (m := 0) rfl) (neF (by omega))) ?_
  refine hcons (kEqI (isX rfl) (isX rfl) (decide_eq_true (by omega))) ?_
  refine hcons (kEqI (isX rfl) (isX rfl) (decide_eq_true (by omega))) ?_
  refine hcons (kRem (isX rfl) (isZ (m := 2) rfl) (denX rfl) (by omega) (by omega) rfl) ?_
  refine hcons (kEqI (isX rfl) (isZ (m := 1) rfl) (decide_eq_false (by omega))) ?_
  exact hnil
theorem path0 (id : Int) (app : Int) (pr : Int) (fl : Int) (b0 : 0 ≤ id) (b1 : id ≤ 65535) (b2 : 0 ≤ app) (b3 : app ≤ 4294967295) (b4 : 0 ≤ pr) (b5 : pr ≤ 255) (b6 : 0 ≤ fl) (b7 : fl ≤ 255) (h0 : fl % 2 = 0) (w : World) (hl : laidE w) : Calls Try.prog 5 #[.int .u16 id, .bool false, .int .u32 app, .int .u8 pr, .int .u8 fl] w fun e w' => e = .returned (.bool true) ∧ Go.AX.Below w.heap.size w w' := by
  obtain ⟨fi, hfi, hb⟩ : ∃ fi, tabk.fn.get 5 = some fi ∧ fi.body.isSome = true := ⟨_, rfl, by kernel_rfl⟩
  exact runP (tb := tab0) ((tabkOk (nuL (nu0 id app pr fl)) (one0 id app pr fl)).hyps (hyOk0 id app pr fl b0 b1 b2 b3 b4 b5 b6 b7 h0)) rfl hfi hb (run0 ) (args := [.int .u16 id, .bool false, .int .u32 app, .int .u8 pr, .int .u8 fl]) (by simp only [RelL, Rel]; exact ⟨_, _, rfl, rfl, ⟨_, _, rfl, rfl, ⟨_, _, rfl, rfl, ⟨_, _, rfl, rfl, ⟨_, _, rfl, rfl, rfl⟩⟩⟩⟩⟩) w hl
def hy1 : List (HK × AV) := [(.conv 3 (.x 0), .x 4),
  (.conv 3 (.x 2), .x 5),
  (.bin .shr (.x 1) (.i .u64 (.ofNat 24)), .x 6),
  (.conv 5 (.x 6), .x 7),
  (.bin .shr (.x 1) (.i .u64 (.ofNat 16)), .x 8),
  (.conv 5 (.x 8), .x 9),
  (.bin .shr (.x 1) (.i .u64 (.ofNat 8)), .x 10),
  (.conv 5 (.x 10), .x 11),
  (.conv 5 (.x 1), .x 12),
  (.conv 5 (.x 5), .x 13),
  (.bytes [.x 7, .x 9, .x 11, .x 12, .x 13], .x 14),
  (.len (.x 14), .i .i64 (.ofNat 5)),
  (.bin .add (.x 14) (.s 3 0), .x 15),
  (.len (.x 15), .i .i64 (.ofNat 8)),
  (.idx (.x 15) (.i .i64 (.ofNat 0)), .x 16),
  (.conv 37 (.x 16), .x 17),
  (.bin .shl (.x 17) (.i .u64 (.ofNat 24)), .x 18),
  (.idx (.x 15) (.i .i64 (.ofNat 1)), .x 19),
  (.conv 37 (.x 19), .x 20),
  (.bin .shl (.x 20) (.i .u64 (.ofNat 16)), .x 21),
  (.bin .or (.x 18) (.x 21), .x 22),
  (.idx (.x 15) (.i .i64 (.ofNat 2)), .x 23),
  (.conv 37 (.x 23), .x 24),
  (.bin .shl (.x 24) (.i .u64 (.ofNat 8)), .x 25),
  (.bin .or (.x 22) (.x 25), .x 26),
  (.idx (.x 15) (.i .i64 (.ofNat 3)), .x 27),
  (.conv 37 (.x 27), .x 28),
  (.bin .or (.x 26) (.x 28), .x 29),
  (.idx (.x 15) (.i .i64 (.ofNat 4)), .x 30),
  (.conv 3 (.x 30), .x 31),
  (.bytes [.i .u8 (.ofNat 0), .i .u8 (.ofNat 1), .x 3, .i .u8 (.ofNat 0), .i .u8 (.ofNat 0), .i .u8 (.ofNat 0), .i .u8 (.ofNat 0), .i .u8 (.ofNat 0)], .x 32),
  (.len (.x 32), .i .i64 (.ofNat 8)),
  (.idx (.x 32) (.i .i64 (.ofNat 0)), .i .u8 (.ofNat 0)),
  (.idx (.x 32) (.i .i64 (.ofNat 1)), .i .u8 (.ofNat 1)),
  (.idx (.x 32) (.i .i64 (.ofNat 2)), .x 33),
  (.bin .and (.x 33) (.i .u8 (.ofNat 1)), .x 34),
  (.bin .neq (.x 34) (.i .u8 (.ofNat 0)), .b true),
  (.bin .eql (.x 29) (.x 1), .b true),
  (.bin .eql (.x 31) (.x 5), .b true),
  (.bin .rem (.x 3) (.i .u8 (.ofNat 2)), .x 35),
  (.bin .eql (.x 35) (.i .u8 (.ofNat 1)), .b true)]
noncomputable def tab1 : Tab := { tabk with hyp := hy1 }
theorem run1 : okB (call tab1 9000 5 [.x 0, .b false, .x 1, .x 2, .x 3] ⟨H0 , 1, 0, 0⟩) = true := by kernel_rfl
def nu1 (id : Int) (app : Int) (pr : Int) (fl : Int) : List Value := [.int .u16 (id),
  .int .u32 (app),
  .int .u8 (pr),
  .int .u8 (fl),
  .int .i64 (id),
  .int .i64 (pr),
  .int .u32 (app / 16777216),
  .int .u8 (app / 16777216),
  .int .u32 (app / 65536),
  .int .u8 ((app / 65536) % 256),
  .int .u32 (app / 256),
  .int .u8 ((app / 256) % 256),
  .int .u8 (app % 256),
  .int .u8 (pr),
  St' ([u8 (app / 16777216), u8 ((app / 65536) % 256), u8 ((app / 256) % 256), u8 (app % 256), u8 (pr)]),
  St' ([u8 (app / 16777216), u8 ((app / 65536) % 256), u8 ((app / 256) % 256), u8 (app % 256), u8 (pr), u8 0, u8 0, u8 0]),
  .int .u8 (app / 16777216),
  .int .u32 (app / 16777216),
  .int .u32 ((app / 16777216) * 16777216),
  .int .u8 ((app / 65536) % 256),
  .int .u32 ((app / 65536) % 256),
  .int .u32 (((app / 65536) % 256) * 65536),
  .int .u32 (((app / 16777216) * 16777216) + (((app / 65536) % 256) * 65536)),
  .int .u8 ((app / 256) % 256),
  .int .u32 ((app / 256) % 256),
  .int .u32 (((app / 256) % 256) * 256),
  .int .u32 ((((app / 16777216) * 16777216) + (((app / 65536) % 256) * 65536)) + (((app / 256) % 256) * 256)),
  .int .u8 (app % 256),
  .int .u32 (app % 256),
  .int .u32 (((((app / 16777216) * 16777216) + (((app / 65536) % 256) * 65536)) + (((app / 256) % 256) * 256)) + (app % 256)),
  .int .u8 (pr),
  .int .i64 (pr),
  St' ([u8 0, u8 1, u8 (fl), u8 0, u8 0, u8 0, u8 0, u8 0]),
  .int .u8 (fl),
  .int .u8 (fl % 2),
  .int .u8 (fl % 2)]
theorem one1 (id : Int) (app : Int) (pr : Int) (fl : Int) : ∀ j, (nuL (nu1 id app pr fl) j).oneCell' = true := nuL_one (l := nu1 id app pr fl) rfl
set_option maxHeartbeats 2000000 in
theorem hyOk1 (id : Int) (app : Int) (pr : Int) (fl : Int) (b0 : 0 ≤ id) (b1 : id ≤ 65535) (b2 : 0 ≤ app) (b3 : app ≤ 4294967295) (b4 : 0 ≤ pr) (b5 : pr ≤ 255) (b6 : 0 ≤ fl) (b7 : fl ≤ 255) (h0 : ¬ (fl % 2 = 0)) : ∀ k r, (k, r) ∈ hy1 → HOk (cx (nuL (nu1 id app pr fl)) (one1 id app pr fl) 0 laidE laidE_stab) k r := by
  unfold hy1
  refine hcons (kConvF (isX rfl) tu3 (denX rfl) (fI64 (by omega) (by omega))) ?_
  refine hcons (kConvF (isX rfl) tu3 (denX rfl) (fI64 (by omega) (by omega))) ?_
  refine hcons (kShrM 24 16777216 rfl (isX rfl) (isZ (m := 24) rfl) (denX rfl) rfl (by decide) (by omega) rfl) ?_
  refine hcons (kConvF (isX rfl) tu5 (denX rfl) (fU8 (by omega) (by omega))) ?_
  refine hcons (kShrM 16 65536 rfl (isX rfl) (isZ (m := 16) rfl) (denX rfl) rfl (by decide) (by omega) rfl) ?_
  refine hcons (kConv8 (isX rfl) tu5 (denX rfl) rfl) ?_
  refine hcons (kShrM 8 256 rfl (isX rfl) (isZ (m := 8) rfl) (denX rfl) rfl (by decide) (by omega) rfl) ?_
  refine hcons (kConv8 (isX rfl) tu5 (denX rfl) rfl) ?_
  refine hcons (kConv8 (isX rfl) tu5 (denX rfl) rfl) ?_
  refine hcons (kConvF (isX rfl) tu5 (denX rfl) (fU8 (by omega) (by omega))) ?_
  refine hcons (kBytesB (bs := [u8 (app / 16777216), u8 ((app / 65536) % 256), u8 ((app / 256) % 256), u8 (app % 256), u8 (pr)]) (.cons (isB8 (isX rfl) (by omega) (by omega)) (.cons (isB8 (isX rfl) (by omega) (by omega)) (.cons (isB8 (isX rfl) (by omega) (by omega)) (.cons (isB8 (isX rfl) (by omega) (by omega)) (.cons (isB8 (isX rfl) (by omega) (by omega)) .nil))))) (denX rfl)) ?_
  refine hcons (kLenE (isX rfl) (denZ (m := 5) rfl) (by first | omega | (simp only [List.length_append, List.length_cons, List.length_nil, List.length_take, List.length_drop, Int.natCast_add] at *; omega))) ?_
  refine hcons (kCat (isX rfl) (isSx (l := [u8 0, u8 0, u8 0]) 3 0 rfl) (denX rfl) (by first | rfl | (simp only [List.append_assoc, List.cons_append, List.nil_append, List.append_nil]; done)) (by first | omega | (simp only [List.length_append, List.length_cons, List.length_nil, List.length_take, List.length_drop, Int.natCast_add] at *; omega))) ?_
  refine hcons (kLenE (isX rfl) (denZ (m := 8) rfl) (by first | omega | (simp only [List.length_append, List.length_cons, List.length_nil, List.length_take, List.length_drop, Int.natCast_add] at *; omega))) ?_
  refine hcons (kIdxE (i := 0) (isX rfl) (isZ (m := 0) rfl) (denX rfl) rfl (by first | omega | (simp only [List.length_append, List.length_cons, List.length_nil, List.length_take, List.length_drop, Int.natCast_add] at *; omega)) (bt_at rfl (by omega) (by omega))) ?_
  refine hcons (kConvF (isX rfl) tu37 (denX rfl) (fU32 (by omega) (by omega))) ?_
  refine hcons (kShlM 24 16777216 rfl (isX rfl) (isZ (m := 24) rfl) (denX rfl) rfl (by decide) rfl (fU32 (by omega) (by omega))) ?_
  refine hcons (kIdxE (i := 1) (isX rfl) (isZ (m := 1) rfl) (denX rfl) rfl (by first | omega | (simp only [List.length_append, List.length_cons, List.length_nil, List.length_take, List.length_drop, Int.natCast_add] at *; omega)) (bt_at rfl (by omega) (by omega))) ?_
  refine hcons (kConvF (isX rfl) tu37 (denX rfl) (fU32 (by omega) (by omega))) ?_
  refine hcons (kShlM 16 65536 rfl (isX rfl) (isZ (m := 16) rfl) (denX rfl) rfl (by decide) rfl (fU32 (by omega) (by omega))) ?_
  refine hcons (kOrM 24 16777216 rfl (isX rfl) (isX rfl) (denX rfl) (by omega) (by omega) (fU32 (by omega) (by omega)) (fU32 (by omega) (by omega)) (by omega) (by omega) rfl (fU32 (by omega) (by omega))) ?_
  refine hcons (kIdxE (i := 2) (isX rfl) (isZ (m := 2) rfl) (denX rfl) rfl (by first | omega | (simp only [List.length_append, List.length_cons, List.length_nil, List.length_take, List.length_drop, Int.natCast_add] at *; omega)) (bt_at rfl (by omega) (by omega))) ?_
  refine hcons (kConvF (isX rfl) tu37 (denX rfl) (fU32 (by omega) (by omega))) ?_
  refine hcons (kShlM 8 256 rfl (isX rfl) (isZ (m := 8) rfl) (denX rfl) rfl (by decide) rfl (fU32 (by omega) (by omega))) ?_
  refine hcons (kOrM 16 65536 rfl (isX rfl) (isX rfl) (denX rfl) (by omega) (by omega) (fU32 (by omega) (by omega)) (fU32 (by omega) (by omega)) (by omega) (by omega) rfl (fU32 (by omega) (by omega))) ?_
  refine hcons (kIdxE (i := 3) (isX rfl) (isZ (m := 3) rfl) (denX rfl) rfl (by first | omega | (simp only [List.length_append, List.length_cons, List.length_nil, List.length_take, List.length_drop, Int.natCast_add] at *; omega)) (bt_at rfl (by omega) (by omega))) ?_
  refine hcons (kConvF (isX rfl) tu37 (denX rfl) (fU32 (by omega) (by omega))) ?_
  refine hcons (kOrM 8 256 rfl (isX rfl) (isX rfl) (denX rfl) (by omega) (by omega) (fU32 (by omega) (by omega)) (fU32 (by omega) (by omega)) (by omega) (by omega) rfl (fU32 (by omega) (by omega))) ?_
  refine hcons (kIdxE (i := 4) (isX rfl) (isZ (m := 4) rfl) (denX rfl) rfl (by first | omega | (simp only [List.length_append, List.length_cons, List.length_nil, List.length_take, List.length_drop, Int.natCast_add] at *; omega)) (bt_at rfl (by omega) (by omega))) ?_
  refine hcons (kConvF (isX rfl) tu3 (denX rfl) (fI64 (by omega) (by omega))) ?_
  refine hcons (kBytesB (bs := [u8 0, u8 1, u8 (fl), u8 0, u8 0, u8 0, u8 0, u8 0]) (.cons (isB8 (isZ (m := 0) rfl) (by omega) (by omega)) (.cons (isB8 (isZ (m := 1) rfl) (by omega) (by omega)) (.cons (isB8 (isX rfl) (by omega) (by omega)) (.cons (isB8 (isZ (m := 0) rfl) (by omega) (by omega)) (.cons (isB8 (isZ (m := 0) rfl) (by omega) (by omega)) (.cons (isB8 (isZ (m := 0) rfl) (by omega) (by omega)) (.cons (isB8 (isZ (m := 0) rfl) (by omega) (by omega)) (.cons (isB8 (isZ (m := 0) rfl) (by omega) (by omega)) .nil)))))))) (denX rfl)) ?_
  refine hcons (kLenE (isX rfl) (denZ (m := 8) rfl) (by first | omega | (simp only [List.length_append, List.length_cons, List.length_nil, List.length_take, List.length_drop, Int.natCast_add] at *; omega))) ?_
  refine hcons (kIdxE (i := 0) (isX rfl) (isZ (m := 0) rfl) (denZ (m := 0) rfl) rfl (by first | omega | (simp only [List.length_append, List.length_cons, List.length_nil, List.length_take, List.length_drop, Int.natCast_add] at *; omega)) (bt_at rfl (by omega) (by omega))) ?_
  refine hcons (kIdxE (i := 1) (isX rfl) (isZ (m := 1) rfl) (denZ (m := 1) rfl) rfl (by first | omega | (simp only [List.length_append, List.length_cons, List.length_nil, List.length_take, List.length_drop, Int.natCast_add] at *; omega)) (bt_at rfl (by omega) (by omega))) ?_
  refine hcons (kIdxE (i := 2) (isX rfl) (isZ (m := 2) rfl) (denX rfl) rfl (by first | omega | (simp only [List.length_append, List.length_cons, List.length_nil, List.length_take, List.length_drop, Int.natCast_add] at *; omega)) (bt_at rfl (by omega) (by omega))) ?_
  refine hcons (kAndM 1 2 rfl (isX rfl) (isZ (m := 1) rfl) (denX rfl) (by omega) (fU8 (by omega) (by omega)) (fU8 (by omega) (by omega)) rfl rfl) ?_
  refine hcons (kNeI (isX rfl) (isZ (m := 0) rfl) (neT (by omega))) ?_
  refine hcons (kEqI (isX rfl) (isX rfl) (decide_eq_true (by omega))) ?_
  refine hcons (kEqI (isX rfl) (isX rfl) (decide_eq_true (by omega))) ?_
  refine hcons (kRem (isX rfl) (isZ (m := 2) rfl) (denX rfl) (by omega) (by omega) rfl) ?_
  refine hcons (kEqI (isX rfl) (isZ (m := 1) rfl) (decide_eq_true (by omega))) ?_
  exact hnil
theorem path1 (id : Int) (app : Int) (pr : Int) (fl : Int) (b0 : 0 ≤ id) (b1 : id ≤ 65535) (b2 : 0 ≤ app) (b3 : app ≤ 4294967295) (b4 : 0 ≤ pr) (b5 : pr ≤ 255) (b6 : 0 ≤ fl) (b7 : fl ≤ 255) (h0 : ¬ (fl % 2 = 0)) (w : World) (hl : laidE w) : Calls Try.prog 5 #[.int .u16 id, .bool false, .int .u32 app, .int .u8 pr, .int .u8 fl] w fun e w' => e = .returned (.bool true) ∧ Go.AX.Below w.heap.size w w' := by
  obtain ⟨fi, hfi, hb⟩ : ∃ fi, tabk.fn.get 5 = some fi ∧ fi.body.isSome = true := ⟨_, rfl, by kernel_rfl⟩
  exact runP (tb := tab1) ((tabkOk (nuL (nu1 id app pr fl)) (one1 id app pr fl)).hyps (hyOk1 id app pr fl b0 b1 b2 b3 b4 b5 b6 b7 h0)) rfl hfi hb (run1 ) (args := [.int .u16 id, .bool false, .int .u32 app, .int .u8 pr, .int .u8 fl]) (by simp only [RelL, Rel]; exact ⟨_, _, rfl, rfl, ⟨_, _, rfl, rfl, ⟨_, _, rfl, rfl, ⟨_, _, rfl, rfl, ⟨_, _, rfl, rfl, rfl⟩⟩⟩⟩⟩) w hl
def hy2 : List (HK × AV) := [(.conv 3 (.x 0), .x 4),
  (.conv 3 (.x 2), .x 5),
  (.bin .shr (.x 1) (.i .u64 (.ofNat 24)), .x 6),
  (.conv 5 (.x 6), .x 7),
  (.bin .shr (.x 1) (.i .u64 (.ofNat 16)), .x 8),
  (.conv 5 (.x 8), .x 9),
  (.bin .shr (.x 1) (.i .u64 (.ofNat 8)), .x 10),
  (.conv 5 (.x 10), .x 11),
  (.conv 5 (.x 1), .x 12),
  (.conv 5 (.x 5), .x 13),
  (.bytes [.x 7, .x 9, .x 11, .x 12, .x 13], .x 14),
  (.len (.x 14), .i .i64 (.ofNat 5)),
  (.bin .add (.x 14) (.s 3 0), .x 15),
  (.len (.x 15), .i .i64 (.ofNat 8)),
  (.idx (.x 15) (.i .i64 (.ofNat 0)), .x 16),
  (.conv 37 (.x 16), .x 17),
  (.bin .shl (.x 17) (.i .u64 (.ofNat 24)), .x 18),
  (.idx (.x 15) (.i .i64 (.ofNat 1)), .x 19),
  (.conv 37 (.x 19), .x 20),
  (.bin .shl (.x 20) (.i .u64 (.ofNat 16)), .x 21),
  (.bin .or (.x 18) (.x 21), .x 22),
  (.idx (.x 15) (.i .i64 (.ofNat 2)), .x 23),
  (.conv 37 (.x 23), .x 24),
  (.bin .shl (.x 24) (.i .u64 (.ofNat 8)), .x 25),
  (.bin .or (.x 22) (.x 25), .x 26),
  (.idx (.x 15) (.i .i64 (.ofNat 3)), .x 27),
  (.conv 37 (.x 27), .x 28),
  (.bin .or (.x 26) (.x 28), .x 29),
  (.idx (.x 15) (.i .i64 (.ofNat 4)), .x 30),
  (.conv 3 (.x 30), .x 31),
  (.bytes [.i .u8 (.ofNat 0), .i .u8 (.ofNat 1), .x 3, .i .u8 (.ofNat 0), .i .u8 (.ofNat 0), .i .u8 (.ofNat 0), .i .u8 (.ofNat 0), .i .u8 (.ofNat 0)], .x 32),
  (.len (.x 32), .i .i64 (.ofNat 8)),
  (.idx (.x 32) (.i .i64 (.ofNat 0)), .i .u8 (.ofNat 0)),
  (.idx (.x 32) (.i .i64 (.ofNat 1)), .i .u8 (.ofNat 1)),
  (.idx (.x 32) (.i .i64 (.ofNat 2)), .x 33),
  (.bin .and (.x 33) (.i .u8 (.ofNat 1)), .x 34),
  (.bin .neq (.x 34) (.i .u8 (.ofNat 0)), .b false),
  (.bin .eql (.x 29) (.x 1), .b true),
  (.bin .eql (.x 31) (.x 5), .b true),
  (.bin .rem (.x 3) (.i .u8 (.ofNat 2)), .x 35),
  (.bin .eql (.x 35) (.i .u8 (.ofNat 1)), .b false)]
noncomputable def tab2 : Tab := { tabk with hyp := hy2 }
theorem run2 : okB (call tab2 9000 5 [.x 0, .b true, .x 1, .x 2, .x 3] ⟨H0 , 1, 0, 0⟩) = true := by kernel_rfl
def nu2 (id : Int) (app : Int) (pr : Int) (fl : Int) : List Value := [.int .u16 (id),
  .int .u32 (app),
  .int .u8 (pr),
  .int .u8 (fl),
  .int .i64 (id),
  .int .i64 (pr),
  .int .u32 (app / 16777216),
  .int .u8 (app / 16777216),
  .int .u32 (app / 65536),
  .int .u8 ((app / 65536) % 256),
  .int .u32 (app / 256),
  .int .u8 ((app / 256) % 256),
  .int .u8 (app % 256),
  .int .u8 (pr),
  St' ([u8 (app / 16777216), u8 ((app / 65536) % 256), u8 ((app / 256) % 256), u8 (app % 256), u8 (pr)]),
  St' ([u8 (app / 16777216), u8 ((app / 65536) % 256), u8 ((app / 256) % 256), u8 (app % 256), u8 (pr), u8 0, u8 0, u8 0]),
  .int .u8 (app / 16777216),
  .int .u32 (app / 16777216),
  .int .u32 ((app / 16777216) * 16777216),
  .int .u8 ((app / 65536) % 256),
  .int .u32 ((app / 65536) % 256),
  .int .u32 (((app / 65536) % 256) * 65536),
  .int .u32 (((app / 16777216) * 16777216) + (((app / 65536) % 256) * 65536)),
  .int .u8 ((app / 256) % 256),
  .int .u32 ((app / 256) % 256),
  .int .u32 (((app / 256) % 256) * 256),
  .int .u32 ((((app / 16777216) * 16777216) + (((app / 65536) % 256) * 65536)) + (((app / 256) % 256) * 256)),
  .int .u8 (app % 256),
  .int .u32 (app % 256),
  .int .u32 (((((app / 16777216) * 16777216) + (((app / 65536) % 256) * 65536)) + (((app / 256) % 256) * 256)) + (app % 256)),
  .int .u8 (pr),
  .int .i64 (pr),
  St' ([u8 0, u8 1, u8 (fl), u8 0, u8 0, u8 0, u8 0, u8 0]),
  .int .u8 (fl),
  .int .u8 (fl % 2),
  .int .u8 (fl % 2)]
theorem one2 (id : Int) (app : Int) (pr : Int) (fl : Int) : ∀ j, (nuL (nu2 id app pr fl) j).oneCell' = true := nuL_one (l := nu2 id app pr fl) rfl
set_option maxHeartbeats 2000000 in
theorem hyOk2 (id : Int) (app : Int) (pr : Int) (fl : Int) (b0 : 0 ≤ id) (b1 : id ≤ 65535) (b2 : 0 ≤ app) (b3 : app ≤ 4294967295) (b4 : 0 ≤ pr) (b5 : pr ≤ 255) (b6 : 0 ≤ fl) (b7 : fl ≤ 255) (h0 : fl % 2 = 0) : ∀ k r, (k, r) ∈ hy2 → HOk (cx (nuL (nu2 id app pr fl)) (one2 id app pr fl) 0 laidE laidE_stab) k r := by
  unfold hy2
  refine hcons (kConvF (isX rfl) tu3 (denX rfl) (fI64 (by omega) (by omega))) ?_
  refine hcons (kConvF (isX rfl) tu3 (denX rfl) (fI64 (by omega) (by omega))) ?_
  refine hcons (kShrM 24 16777216 rfl (isX rfl) (isZ (m := 24) rfl) (denX rfl) rfl (by decide) (by omega) rfl) ?_
  refine hcons (kConvF (isX rfl) tu5 (denX rfl) (fU8 (by omega) (by omega))) ?_
  refine hcons (kShrM 16 65536 rfl (isX rfl) (isZ (m := 16) rfl) (denX rfl) rfl (by decide) (by omega) rfl) ?_
  refine hcons (kConv8 (isX rfl) tu5 (denX rfl) rfl) ?_
  refine hcons (kShrM 8 256 rfl (isX rfl) (isZ (m := 8) rfl) (denX rfl) rfl (by decide) (by omega) rfl) ?_
  refine hcons (kConv8 (isX rfl) tu5 (denX rfl) rfl) ?_
  refine hcons (kConv8 (isX rfl) tu5 (denX rfl) rfl) ?_
  refine hcons (kConvF (isX rfl) tu5 (denX rfl) (fU8 (by omega) (by omega))) ?_
  refine hcons (kBytesB (bs := [u8 (app / 16777216), u8 ((app / 65536) % 256), u8 ((app / 256) % 256), u8 (app % 256), u8 (pr)]) (.cons (isB8 (isX rfl) (by omega) (by omega)) (.cons (isB8 (isX rfl) (by omega) (by omega)) (.cons (isB8 (isX rfl) (by omega) (by omega)) (.cons (isB8 (isX rfl) (by omega) (by omega)) (.cons (isB8 (isX rfl) (by omega) (by omega)) .nil))))) (denX rfl)) ?_
  refine hcons (kLenE (isX rfl) (denZ (m := 5) rfl) (by first | omega | (simp only [List.length_append, List.length_cons, List.length_nil, List.length_take, List.length_drop, Int.natCast_add] at *; omega))) ?_
  refine hcons (kCat (isX rfl) (isSx (l := [u8 0, u8 0, u8 0]) 3 0 rfl) (denX rfl) (by first | rfl | (simp only [List.append_assoc, List.cons_append, List.nil_append, List.append_nil]; done)) (by first | omega | (simp only [List.length_append, List.length_cons, List.length_nil, List.length_take, List.length_drop, Int.natCast_add] at *; omega))) ?_
  refine hcons (kLenE (isX rfl) (denZ (m := 8) rfl) (by first | omega | (simp only [List.length_append, List.length_cons, List.length_nil, List.length_take, List.length_drop, Int.natCast_add] at *; omega))) ?_
  refine hcons (kIdxE (i := 0) (isX rfl) (isZ (m := 0) rfl) (denX rfl) rfl (by first | omega | (simp only [List.length_append, List.length_cons, List.length_nil, List.length_take, List.length_drop, Int.natCast_add] at *; omega)) (bt_at rfl (by omega) (by omega))) ?_
  refine hcons (kConvF (isX rfl) tu37 (denX rfl) (fU32 (by omega) (by omega))) ?_
  refine hcons (kShlM 24 16777216 rfl (isX rfl) (isZ (m := 24) rfl) (denX rfl) rfl (by decide) rfl (fU32 (by omega) (by omega))) ?_
  refine hcons (kIdxE (i := 1) (isX rfl) (isZ (m := 1) rfl) (denX rfl) rfl (by first | omega | (simp only [List.length_append, List.length_cons, List.length_nil, List.length_take, List.length_drop, Int.natCast_add] at *; omega)) (bt_at rfl (by omega) (by omega))) ?_
  refine hcons (kConvF (isX rfl) tu37 (denX rfl) (fU32 (by omega) (by omega))) ?_
  refine hcons (kShlM 16 65536 rfl (isX rfl) (isZ (m := 16) rfl) (denX rfl) rfl (by decide) rfl (fU32 (by omega) (by omega))) ?_
  refine hcons (kOrM 24 16777216 rfl (isX rfl) (isX rfl) (denX rfl) (by omega) (by omega) (fU32 (by omega) (by omega)) (fU32 (by omega) (by omega)) (by omega) (by omega) rfl (fU32 (by omega) (by omega))) ?_
  refine hcons (kIdxE (i := 2) (isX rfl) (isZ (m := 2) rfl) (denX rfl) rfl (by first | omega | (simp only [List.length_append, List.length_cons, List.length_nil, List.length_take, List.length_drop, Int.natCast_add] at *; omega)) (bt_at rfl (by omega) (by omega))) ?_
  refine hcons (kConvF (isX rfl) tu37 (denX rfl) (fU32 (by omega) (by omega))) ?_
  refine hcons (kShlM 8 256 rfl (isX rfl) (isZ (m := 8) rfl) (denX rfl) rfl (by decide) rfl (fU32 (by omega) (by omega))) ?_
  refine hcons (kOrM 16 65536 rfl (isX rfl) (isX rfl) (denX rfl) (by omega) (by omega) (fU32 (by omega) (by omega)) (fU32 (by omega) (by omega)) (by omega) (by omega) rfl (fU32 (by omega) (by omega))) ?_
  refine hcons (kIdxE (i := 3) (isX rfl) (isZ (m := 3) rfl) (denX rfl) rfl (by first | omega | (simp only [List.length_append, List.length_cons, List.length_nil, List.length_take, List.length_drop, Int.natCast_add] at *; omega)) (bt_at rfl (by omega) (by omega))) ?_
  refine hcons (kConvF (isX rfl) tu37 (denX rfl) (fU32 (by omega) (by omega))) ?_
  refine hcons (kOrM 8 256 rfl (isX rfl) (isX rfl) (denX rfl) (by omega) (by omega) (fU32 (by omega) (by omega)) (fU32 (by omega) (by omega)) (by omega) (by omega) rfl (fU32 (by omega) (by omega))) ?_
  refine hcons (kIdxE (i := 4) (isX rfl) (isZ (m := 4) rfl) (denX rfl) rfl (by first | omega | (simp only [List.length_append, List.length_cons, List.length_nil, List.length_take, List.length_drop, Int.natCast_add] at *; omega)) (bt_at rfl (by omega) (by omega))) ?_
  refine hcons (kConvF (isX rfl) tu3 (denX rfl) (fI64 (by omega) (by omega))) ?_
  refine hcons (kBytesB (bs := [u8 0, u8 1, u8 (fl), u8 0, u8 0, u8 0, u8 0, u8 0]) (.cons (isB8 (isZ (m := 0) rfl) (by omega) (by omega)) (.cons (isB8 (isZ (m := 1) rfl) (by omega) (by omega)) (.cons (isB8 (isX rfl) (by omega) (by omega)) (.cons (isB8 (isZ (m := 0) rfl) (by omega) (by omega)) (.cons (isB8 (isZ (m := 0) rfl) (by omega) (by omega)) (.cons (isB8 (isZ (m := 0) rfl) (by omega) (by omega)) (.cons (isB8 (isZ (m := 0) rfl) (by omega) (by omega)) (.cons (isB8 (isZ (m := 0) rfl) (by omega) (by omega)) .nil)))))))) (denX rfl)) ?_
  refine hcons (kLenE (isX rfl) (denZ (m := 8) rfl) (by first | omega | (simp only [List.length_append, List.length_cons, List.length_nil, List.length_take, List.length_drop, Int.natCast_add] at *; omega))) ?_
  refine hcons (kIdxE (i := 0) (isX rfl) (isZ (m := 0) rfl) (denZ (m := 0) rfl) rfl (by first | omega | (simp only [List.length_append, List.length_cons, List.length_nil, List.length_take, List.length_drop, Int.natCast_add] at *; omega)) (bt_at rfl (by omega) (by omega))) ?_
  refine hcons (kIdxE (i := 1) (isX rfl) (isZ (m := 1) rfl) (denZ (m := 1) rfl) rfl (by first | omega | (simp only [List.length_append, List.length_cons, List.length_nil, List.length_take, List.length_drop, Int.natCast_add] at *; omega)) (bt_at rfl (by omega) (by omega))) ?_
  refine hcons (kIdxE (i := 2) (isX rfl) (isZ (m := 2) rfl) (denX rfl) rfl (by first | omega | (simp only [List.length_append, List.length_cons, List.length_nil, List.length_take, List.length_drop, Int.natCast_add] at *; omega)) (bt_at rfl (by omega) (by omega))) ?_
  refine hcons (kAndM 1 2 rfl (isX rfl) (isZ (m := 1) rfl) (denX rfl) (by omega) (fU8 (by omega) (by omega)) (fU8 (by omega) (by omega)) rfl rfl) ?_
  refine hcons (kNeI (isX rfl) (isZ (m := 0) rfl) (neF (by omega))) ?_
  refine hcons (kEqI (isX rfl) (isX rfl) (decide_eq_true (by omega))) ?_
  refine hcons (kEqI (isX rfl) (isX rfl) (decide_eq_true (by omega))) ?_
  refine hcons (kRem (isX rfl) (isZ (m := 2) rfl) (denX rfl) (by omega) (by omega) rfl) ?_
  refine hcons (kEqI (isX rfl) (isZ (m := 1) rfl) (decide_eq_false (by omega))) ?_
  exact hnil
theorem path2 (id : Int) (app : Int) (pr : Int) (fl : Int) (b0 : 0 ≤ id) (b1 : id ≤ 65535) (b2 : 0 ≤ app) (b3 : app ≤ 4294967295) (b4 : 0 ≤ pr) (b5 : pr ≤ 255) (b6 : 0 ≤ fl) (b7 : fl ≤ 255) (h0 : fl % 2 = 0) (w : World) (hl : laidE w) : Calls Try.prog 5 #[.int .u16 id, .bool true, .int .u32 app, .int .u8 pr, .int .u8 fl] w fun e w' => e = .returned (.bool true) ∧ Go.AX.Below w.heap.size w w' := by
  obtain ⟨fi, hfi, hb⟩ : ∃ fi, tabk.fn.get 5 = some fi ∧ fi.body.isSome = true := ⟨_, rfl, by kernel_rfl⟩
  exact runP (tb := tab2) ((tabkOk (nuL (nu2 id app pr fl)) (one2 id app pr fl)).hyps (hyOk2 id app pr fl b0 b1 b2 b3 b4 b5 b6 b7 h0)) rfl hfi hb (run2 ) (args := [.int .u16 id, .bool true, .int .u32 app, .int .u8 pr, .int .u8 fl]) (by simp only [RelL, Rel]; exact ⟨_, _, rfl, rfl, ⟨_, _, rfl, rfl, ⟨_, _, rfl, rfl, ⟨_, _, rfl, rfl, ⟨_, _, rfl, rfl, rfl⟩⟩⟩⟩⟩) w hl
def hy3 : List (HK × AV) := [(.conv 3 (.x 0), .x 4),
  (.conv 3 (.x 2), .x 5),
  (.bin .shr (.x 1) (.i .u64 (.ofNat 24)), .x 6),
  (.conv 5 (.x 6), .x 7),
  (.bin .shr (.x 1) (.i .u64 (.ofNat 16)), .x 8),
  (.conv 5 (.x 8), .x 9),
  (.bin .shr (.x 1) (.i .u64 (.ofNat 8)), .x 10),
  (.conv 5 (.x 10), .x 11),
  (.conv 5 (.x 1), .x 12),
  (.conv 5 (.x 5), .x 13),
  (.bytes [.x 7, .x 9, .x 11, .x 12, .x 13], .x 14),
  (.len (.x 14), .i .i64 (.ofNat 5)),
  (.bin .add (.x 14) (.s 3 0), .x 15),
  (.len (.x 15), .i .i64 (.ofNat 8)),
  (.idx (.x 15) (.i .i64 (.ofNat 0)), .x 16),
  (.conv 37 (.x 16), .x 17),
  (.bin .shl (.x 17) (.i .u64 (.ofNat 24)), .x 18),
  (.idx (.x 15) (.i .i64 (.ofNat 1)), .x 19),
  (.conv 37 (.x 19), .x 20),
  (.bin .shl (.x 20) (.i .u64 (.ofNat 16)), .x 21),
  (.bin .or (.x 18) (.x 21), .x 22),
  (.idx (.x 15) (.i .i64 (.ofNat 2)), .x 23),
  (.conv 37 (.x 23), .x 24),
  (.bin .shl (.x 24) (.i .u64 (.ofNat 8)), .x 25),
  (.bin .or (.x 22) (.x 25), .x 26),
  (.idx (.x 15) (.i .i64 (.ofNat 3)), .x 27),
  (.conv 37 (.x 27), .x 28),
  (.bin .or (.x 26) (.x 28), .x 29),
  (.idx (.x 15) (.i .i64 (.ofNat 4)), .x 30),
  (.conv 3 (.x 30), .x 31),
  (.bytes [.i .u8 (.ofNat 0), .i .u8 (.ofNat 1), .x 3, .i .u8 (.ofNat 0), .i .u8 (.ofNat 0), .i .u8 (.ofNat 0), .i .u8 (.ofNat 0), .i .u8 (.ofNat 0)], .x 32),
  (.len (.x 32), .i .i64 (.ofNat 8)),
  (.idx (.x 32) (.i .i64 (.ofNat 0)), .i .u8 (.ofNat 0)),
  (.idx (.x 32) (.i .i64 (.ofNat 1)), .i .u8 (.ofNat 1)),
  (.idx (.x 32) (.i .i64 (.ofNat 2)), .x 33),
  (.bin .and (.x 33) (.i .u8 (.ofNat 1)), .x 34),
  (.bin .neq (.x 34) (.i .u8 (.ofNat 0)), .b true),
  (.bin .eql (.x 29) (.x 1), .b true),
  (.bin .eql (.x 31) (.x 5), .b true),
  (.bin .rem (.x 3) (.i .u8 (.ofNat 2)), .x 35),
  (.bin .eql (.x 35) (.i .u8 (.ofNat 1)), .b true)]
noncomputable def tab3 : Tab := { tabk with hyp := hy3 }
theorem run3 : okB (call tab3 9000 5 [.x 0, .b true, .x 1, .x 2, .x 3] ⟨H0 , 1, 0, 0⟩) = true := by kernel_rfl
def nu3 (id : Int) (app : Int) (pr : Int) (fl : Int) : List Value := [.int .u16 (id),
  .int .u32 (app),
  .int .u8 (pr),
  .int .u8 (fl),
  .int .i64 (id),
  .int .i64 (pr),
  .int .u32 (app / 16777216),
  .int .u8 (app / 16777216),
  .int .u32 (app / 65536),
  .int .u8 ((app / 65536) % 256),
  .int .u32 (app / 256),
  .int .u8 ((app / 256) % 256),
  .int .u8 (app % 256),
  .int .u8 (pr),
  St' ([u8 (app / 16777216), u8 ((app / 65536) % 256), u8 ((app / 256) % 256), u8 (app % 256), u8 (pr)]),
  St' ([u8 (app / 16777216), u8 ((app / 65536) % 256), u8 ((app / 256) % 256), u8 (app % 256), u8 (pr), u8 0, u8 0, u8 0]),
  .int .u8 (app / 16777216),
  .int .u32 (app / 16777216),
  .int .u32 ((app / 16777216) * 16777216),
  .int .u8 ((app / 65536) % 256),
  .int .u32 ((app / 65536) % 256),
  .int .u32 (((app / 65536) % 256) * 65536),
  .int .u32 (((app / 16777216) * 16777216) + (((app / 65536) % 256) * 65536)),
  .int .u8 ((app / 256) % 256),
  .int .u32 ((app / 256) % 256),
  .int .u32 (((app / 256) % 256) * 256),
  .int .u32 ((((app / 16777216) * 16777216) + (((app / 65536) % 256) * 65536)) + (((app / 256) % 256) * 256)),
  .int .u8 (app % 256),
  .int .u32 (app % 256),
  .int .u32 (((((app / 16777216) * 16777216) + (((app / 65536) % 256) * 65536)) + (((app / 256) % 256) * 256)) + (app % 256)),
  .int .u8 (pr),
  .int .i64 (pr),
  St' ([u8 0, u8 1, u8 (fl), u8 0, u8 0, u8 0, u8 0, u8 0]),
  .int .u8 (fl),
  .int .u8 (fl % 2),
  .int .u8 (fl % 2)]
theorem one3 (id : Int) (app : Int) (pr : Int) (fl : Int) : ∀ j, (nuL (nu3 id app pr fl) j).oneCell' = true := nuL_one (l := nu3 id app pr fl) rfl
set_option maxHeartbeats 2000000 in
theorem hyOk3 (id : Int) (app : Int) (pr : Int) (fl : Int) (b0 : 0 ≤ id) (b1 : id ≤ 65535) (b2 : 0 ≤ app) (b3 : app ≤ 4294967295) (b4 : 0 ≤ pr) (b5 : pr ≤ 255) (b6 : 0 ≤ fl) (b7 : fl ≤ 255) (h0 : ¬ (fl % 2 = 0)) : ∀ k r, (k, r) ∈ hy3 → HOk (cx (nuL (nu3 id app pr fl)) (one3 id app pr fl) 0 laidE laidE_stab) k r := by
  unfold hy3
  refine hcons (kConvF (isX rfl) tu3 (denX rfl) (fI64 (by omega) (by omega))) ?_
  refine hcons (kConvF (isX rfl) tu3 (denX rfl) (fI64 (by omega) (by omega))) ?_
  refine hcons (kShrM 24 16777216 rfl (isX rfl) (isZ (m := 24) rfl) (denX rfl) rfl (by decide) (by omega) rfl) ?_
  refine hcons (kConvF (isX rfl) tu5 (denX rfl) (fU8 (by omega) (by omega))) ?_
  refine hcons (kShrM 16 65536 rfl (isX rfl) (isZ (m := 16) rfl) (denX rfl) rfl (by decide) (by omega) rfl) ?_
  refine hcons (kConv8 (isX rfl) tu5 (denX rfl) rfl) ?_
  refine hcons (kShrM 8 256 rfl (isX rfl) (isZ (m := 8) rfl) (denX rfl) rfl (by decide) (by omega) rfl) ?_
  refine hcons (kConv8 (isX rfl) tu5 (denX rfl) rfl) ?_
  refine hcons (kConv8 (isX rfl) tu5 (denX rfl) rfl) ?_
  refine hcons (kConvF (isX rfl) tu5 (denX rfl) (fU8 (by omega) (by omega))) ?_
  refine hcons (kBytesB (bs := [u8 (app / 16777216), u8 ((app / 65536) % 256), u8 ((app / 256) % 256), u8 (app % 256), u8 (pr)]) (.cons (isB8 (isX rfl) (by omega) (by omega)) (.cons (isB8 (isX rfl) (by omega) (by omega)) (.cons (isB8 (isX rfl) (by omega) (by omega)) (.cons (isB8 (isX rfl) (by omega) (by omega)) (.cons (isB8 (isX rfl) (by omega) (by omega)) .nil))))) (denX rfl)) ?_
  refine hcons (kLenE (isX rfl) (denZ (m := 5) rfl) (by first | omega | (simp only [List.length_append, List.length_cons, List.length_nil, List.length_take, List.length_drop, Int.natCast_add] at *; omega))) ?_
  refine hcons (kCat (isX rfl) (isSx (l := [u8 0, u8 0, u8 0]) 3 0 rfl) (denX rfl) (by first | rfl | (simp only [List.append_assoc, List.cons_append, List.nil_append, List.append_nil]; done)) (by first | omega | (simp only [List.length_append, List.length_cons, List.length_nil, List.length_take, List.length_drop, Int.natCast_add] at *; omega))) ?_
  refine hcons (kLenE (isX rfl) (denZ (m := 8) rfl) (by first | omega | (simp only [List.length_append, List.length_cons, List.length_nil, List.length_take, List.length_drop, Int.natCast_add] at *; omega))) ?_
  refine hcons (kIdxE (i := 0) (isX rfl) (isZ (m := 0) rfl) (denX rfl) rfl (by first | omega | (simp only [List.length_append, List.length_cons, List.length_nil, List.length_take, List.length_drop, Int.natCast_add] at *; omega)) (bt_at rfl (by omega) (by omega))) ?_
  refine hcons (kConvF (isX rfl) tu37 (denX rfl) (fU32 (by omega) (by omega))) ?_
  refine hcons (kShlM 24 16777216 rfl (isX rfl) (isZ (m := 24) rfl) (denX rfl) rfl (by decide) rfl (fU32 (by omega) (by omega))) ?_
  refine hcons (kIdxE (i := 1) (isX rfl) (isZ (m := 1) rfl) (denX rfl) rfl (by first | omega | (simp only [List.length_append, List.length_cons, List.length_nil, List.length_take, List.length_drop, Int.natCast_add] at *; omega)) (bt_at rfl (by omega) (by omega))) ?_
  refine hcons (kConvF (isX rfl) tu37 (denX rfl) (fU32 (by omega) (by omega))) ?_
  refine hcons (kShlM 16 65536 rfl (isX rfl) (isZ (m := 16) rfl) (denX rfl) rfl (by decide) rfl (fU32 (by omega) (by omega))) ?_
  refine hcons (kOrM 24 16777216 rfl (isX rfl) (isX rfl) (denX rfl) (by omega) (by omega) (fU32 (by omega) (by omega)) (fU32 (by omega) (by omega)) (by omega) (by omega) rfl (fU32 (by omega) (by omega))) ?_
  refine hcons (kIdxE (i := 2) (isX rfl) (isZ (m := 2) rfl) (denX rfl) rfl (by first | omega | (simp only [List.length_append, List.length_cons, List.length_nil, List.length_take, List.length_drop, Int.natCast_add] at *; omega)) (bt_at rfl (by omega) (by omega))) ?_
  refine hcons (kConvF (isX rfl) tu37 (denX rfl) (fU32 (by omega) (by omega))) ?_
  refine hcons (kShlM 8 256 rfl (isX rfl) (isZ (m := 8) rfl) (denX rfl) rfl (by decide) rfl (fU32 (by omega) (by omega))) ?_
  refine hcons (kOrM 16 65536 rfl (isX rfl) (isX rfl) (denX rfl) (by omega) (by omega) (fU32 (by omega) (by omega)) (fU32 (by omega) (by omega)) (by omega) (by omega) rfl (fU32 (by omega) (by omega))) ?_
  refine hcons (kIdxE (i := 3) (isX rfl) (isZ (m := 3) rfl) (denX rfl) rfl (by first | omega | (simp only [List.length_append, List.length_cons, List.length_nil, List.length_take, List.length_drop, Int.natCast_add] at *; omega)) (bt_at rfl (by omega) (by omega))) ?_
  refine hcons (kConvF (isX rfl) tu37 (denX rfl) (fU32 (by omega) (by omega))) ?_
  refine hcons (kOrM 8 256 rfl (isX rfl) (isX rfl) (denX rfl) (by omega) (by omega) (fU32 (by omega) (by omega)) (fU32 (by omega) (by omega)) (by omega) (by omega) rfl (fU32 (by omega) (by omega))) ?_
  refine hcons (kIdxE (i := 4) (isX rfl) (isZ (m := 4) rfl) (denX rfl) rfl (by first | omega | (simp only [List.length_append, List.length_cons, List.length_nil, List.length_take, List.length_drop, Int.natCast_add] at *; omega)) (bt_at rfl (by omega) (by omega))) ?_
  refine hcons (kConvF (isX rfl) tu3 (denX rfl) (fI64 (by omega) (by omega))) ?_
  refine hcons (kBytesB (bs := [u8 0, u8 1, u8 (fl), u8 0, u8 0, u8 0, u8 0, u8 0]) (.cons (isB8 (isZ (m := 0) rfl) (by omega) (by omega)) (.cons (isB8 (isZ (m := 1) rfl) (by omega) (by omega)) (.cons (isB8 (isX rfl) (by omega) (by omega)) (.cons (isB8 (isZ (m := 0) rfl) (by omega) (by omega)) (.cons (isB8 (isZ (m := 0) rfl) (by omega) (by omega)) (.cons (isB8 (isZ (m := 0) rfl) (by omega) (by omega)) (.cons (isB8 (isZ (m := 0) rfl) (by omega) (by omega)) (.cons (isB8 (isZ (m := 0) rfl) (by omega) (by omega)) .nil)))))))) (denX rfl)) ?_
  refine hcons (kLenE (isX rfl) (denZ (m := 8) rfl) (by first | omega | (simp only [List.length_append, List.length_cons, List.length_nil, List.length_take, List.length_drop, Int.natCast_add] at *; omega))) ?_
  refine hcons (kIdxE (i := 0) (isX rfl) (isZ (m := 0) rfl) (denZ (m := 0) rfl) rfl (by first | omega | (simp only [List.length_append, List.length_cons, List.length_nil, List.length_take, List.length_drop, Int.natCast_add] at *; omega)) (bt_at rfl (by omega) (by omega))) ?_
  refine hcons (kIdxE (i := 1) (isX rfl) (isZ (m := 1) rfl) (denZ (m := 1) rfl) rfl (by first | omega | (simp only [List.length_append, List.length_cons, List.length_nil, List.length_take, List.length_drop, Int.natCast_add] at *; omega)) (bt_at rfl (by omega) (by omega))) ?_
  refine hcons (kIdxE (i := 2) (isX rfl) (isZ (m := 2) rfl) (denX rfl) rfl (by first | omega | (simp only [List.length_append, List.length_cons, List.length_nil, List.length_take, List.length_drop, Int.natCast_add] at *; omega)) (bt_at rfl (by omega) (by omega))) ?_
  refine hcons (kAndM 1 2 rfl (isX rfl) (isZ (m := 1) rfl) (denX rfl) (by omega) (fU8 (by omega) (by omega)) (fU8 (by omega) (by omega)) rfl rfl) ?_
  refine hcons (kNeI (isX rfl) (isZ (m := 0) rfl) (neT (by omega))) ?_
  refine hcons (kEqI (isX rfl) (isX rfl) (decide_eq_true (by omega))) ?_
  refine hcons (kEqI (isX rfl) (isX rfl) (decide_eq_true (by omega))) ?_
  refine hcons (kRem (isX rfl) (isZ (m := 2) rfl) (denX rfl) (by omega) (by omega) rfl) ?_
  refine hcons (kEqI (isX rfl) (isZ (m := 1) rfl) (decide_eq_true (by omega))) ?_
  exact hnil
theorem path3 (id : Int) (app : Int) (pr : Int) (fl : Int) (b0 : 0 ≤ id) (b1 : id ≤ 65535) (b2 : 0 ≤ app) (b3 : app ≤ 4294967295) (b4 : 0 ≤ pr) (b5 : pr ≤ 255) (b6 : 0 ≤ fl) (b7 : fl ≤ 255) (h0 : ¬ (fl % 2 = 0)) (w : World) (hl : laidE w) : Calls Try.prog 5 #[.int .u16 id, .bool true, .int .u32 app, .int .u8 pr, .int .u8 fl] w fun e w' => e = .returned (.bool true) ∧ Go.AX.Below w.heap.size w w' := by
  obtain ⟨fi, hfi, hb⟩ : ∃ fi, tabk.fn.get 5 = some fi ∧ fi.body.isSome = true := ⟨_, rfl, by kernel_rfl⟩
  exact runP (tb := tab3) ((tabkOk (nuL (nu3 id app pr fl)) (one3 id app pr fl)).hyps (hyOk3 id app pr fl b0 b1 b2 b3 b4 b5 b6 b7 h0)) rfl hfi hb (run3 ) (args := [.int .u16 id, .bool true, .int .u32 app, .int .u8 pr, .int .u8 fl]) (by simp only [RelL, Rel]; exact ⟨_, _, rfl, rfl, ⟨_, _, rfl, rfl, ⟨_, _, rfl, rfl, ⟨_, _, rfl, rfl, ⟨_, _, rfl, rfl, rfl⟩⟩⟩⟩⟩) w hl
end Go.Proofs.Ytejdkoheodambaa.kindBack
