/- A part of the proof: an interpreter of the model's own code on partly known states, and that what it answers is what the program answers. No condition of its own. -/
import Derived.Test.YtejdkoheodambaaDoorB3RecordTellsO
set_option maxRecDepth 100000
set_option linter.unusedVariables false
set_option linter.unusedSimpArgs false
namespace Go.Proofs.YtejdkoheodambaaDoor.recordTells
open Go Go.AX Go.Proofs Go.Proofs.YtejdkoheodambaaDoor
def hy0 : List (HK × AV) := [(.len (.x 4), .x 6),
  (.bin .gtr (.x 6) (.i .i64 (.ofNat 3000)), .b false),
  (.len (.x 2), .x 7),
  (.bin .gtr (.x 7) (.i .i64 (.ofNat 70000)), .b false),
  (.bin .neq (.x 4) (.s 0 0), .b false),
  (.bin .lss (.x 6) (.i .i64 (.ofNat 8)), .b true),
  (.bin .gtr (.x 6) (.i .i64 (.ofNat 0)), .b false),
  (.bin .geq (.x 0) (.i .i64 (.ofNat 1)), .b true),
  (.bin .leq (.x 0) (.i .i64 (.ofNat 255)), .b true),
  (.bin .geq (.x 1) (.i .i64 (.ofNat 0)), .b true),
  (.bin .leq (.x 1) (.i .i64 (.ofNat 65535)), .b true),
  (.bin .leq (.x 7) (.i .i64 (.ofNat 65535)), .b true),
  (.bin .geq (.x 3) (.i .i64 (.ofNat 0)), .b true),
  (.bin .leq (.x 3) (.i .i64 (.ofNat 255)), .b true),
  (.conv 5 (.x 0), .x 8),
  (.bin .shr (.x 1) (.i .u64 (.ofNat 8)), .x 9),
  (.conv 5 (.x 9), .x 10),
  (.conv 5 (.x 1), .x 11),
  (.bin .shr (.x 7) (.i .u64 (.ofNat 8)), .x 12),
  (.conv 5 (.x 12), .x 13),
  (.conv 5 (.x 7), .x 14),
  (.conv 5 (.x 3), .x 15),
  (.bytes [.i .u8 (.ofNat 1), .x 8, .x 10, .x 11, .x 13, .x 14, .x 15, .i .u8 (.ofNat 0)], .x 16),
  (.bin .add (.x 16) (.x 2), .x 17),
  (.call 81 [.s 1 0, .x 3], .x 18),
  (.bin .add (.x 17) (.x 18), .x 19),
  (.bytes [.i .u8 (.ofNat 1), .x 8], .x 20),
  (.bin .quo (.x 1) (.i .i64 (.ofNat 256)), .x 21),
  (.conv 5 (.x 21), .x 22),
  (.bin .rem (.x 1) (.i .i64 (.ofNat 256)), .x 23),
  (.conv 5 (.x 23), .x 24),
  (.bytes [.x 22, .x 24], .x 25),
  (.bin .add (.x 20) (.x 25), .x 26),
  (.bin .quo (.x 7) (.i .i64 (.ofNat 256)), .x 27),
  (.conv 5 (.x 27), .x 28),
  (.bin .rem (.x 7) (.i .i64 (.ofNat 256)), .x 29),
  (.conv 5 (.x 29), .x 30),
  (.bytes [.x 28, .x 30], .x 31),
  (.bin .add (.x 26) (.x 31), .x 32),
  (.bytes [.x 15, .i .u8 (.ofNat 0)], .x 33),
  (.bin .add (.x 32) (.x 33), .x 34),
  (.bin .add (.x 34) (.x 2), .x 35),
  (.zer (.x 3), .x 36),
  (.bin .add (.x 35) (.x 36), .x 37),
  (.bin .eql (.x 19) (.x 37), .b true),
  (.bin .eql (.x 4) (.x 4), .b true),
  (.mm true (.x 5) (.i .i64 (.ofNat 0)), .x 38),
  (.un .neg (.x 38), .x 39),
  (.bin .and (.x 39) (.i .i64 (.ofNat 7)), .x 40),
  (.mm true (.i .i64 (.ofNat 0)) (.x 5), .x 41),
  (.bin .rem (.x 41) (.i .i64 (.ofNat 8)), .x 42),
  (.bin .sub (.i .i64 (.ofNat 8)) (.x 42), .x 43),
  (.bin .rem (.x 43) (.i .i64 (.ofNat 8)), .x 44),
  (.bin .eql (.x 40) (.x 44), .b true)]
noncomputable def tab0 : Tab := { tabk with hyp := hy0 }
theorem run0 (e : Nat) : okB (call tab0 9000 5 [.ag [.x 0, .x 1, .x 2, .x 3], .x 4, .x 5] ⟨H0 e , 7, 0, 0⟩) = true := by kernel_rfl
def nu0 (rt : Int) (ri : Int) (c : List UInt8) (rp : Int) (s : List UInt8) (n : Int) : List Value := [.int .i64 (rt),
  .int .i64 (ri),
  St' c,
  .int .i64 (rp),
  St' s,
  .int .i64 (n),
  .int .i64 ((s.length : Int)),
  .int .i64 ((c.length : Int)),
  .int .u8 (rt % 256),
  .int .i64 (ri / 256),
  .int .u8 ((ri / 256) % 256),
  .int .u8 (ri % 256),
  .int .i64 (((c.length : Int)) / 256),
  .int .u8 ((((c.length : Int)) / 256) % 256),
  .int .u8 (((c.length : Int)) % 256),
  .int .u8 (rp % 256),
  St' ([u8 1, u8 (rt % 256), u8 ((ri / 256) % 256), u8 (ri % 256), u8 ((((c.length : Int)) / 256) % 256), u8 (((c.length : Int)) % 256), u8 (rp % 256), u8 0]),
  St' (([u8 1, u8 (rt % 256), u8 ((ri / 256) % 256), u8 (ri % 256), u8 ((((c.length : Int)) / 256) % 256), u8 (((c.length : Int)) % 256), u8 (rp % 256), u8 0] ++ c)),
  St' ((List.replicate (rp).toNat 0)),
  St' (([u8 1, u8 (rt % 256), u8 ((ri / 256) % 256), u8 (ri % 256), u8 ((((c.length : Int)) / 256) % 256), u8 (((c.length : Int)) % 256), u8 (rp % 256), u8 0] ++ (c ++ (List.replicate (rp).toNat 0)))),
  St' ([u8 1, u8 (rt % 256)]),
  .int .i64 (ri / 256),
  .int .u8 ((ri / 256) % 256),
  .int .i64 (ri % 256),
  .int .u8 ((ri % 256)),
  St' ([u8 ((ri / 256) % 256), u8 ((ri % 256))]),
  St' ([u8 1, u8 (rt % 256), u8 ((ri / 256) % 256), u8 ((ri % 256))]),
  .int .i64 (((c.length : Int)) / 256),
  .int .u8 ((((c.length : Int)) / 256) % 256),
  .int .i64 (((c.length : Int)) % 256),
  .int .u8 ((((c.length : Int)) % 256)),
  St' ([u8 ((((c.length : Int)) / 256) % 256), u8 ((((c.length : Int)) % 256))]),
  St' ([u8 1, u8 (rt % 256), u8 ((ri / 256) % 256), u8 ((ri % 256)), u8 ((((c.length : Int)) / 256) % 256), u8 ((((c.length : Int)) % 256))]),
  St' ([u8 (rp % 256), u8 0]),
  St' ([u8 1, u8 (rt % 256), u8 ((ri / 256) % 256), u8 ((ri % 256)), u8 ((((c.length : Int)) / 256) % 256), u8 ((((c.length : Int)) % 256)), u8 (rp % 256), u8 0]),
  St' (([u8 1, u8 (rt % 256), u8 ((ri / 256) % 256), u8 ((ri % 256)), u8 ((((c.length : Int)) / 256) % 256), u8 ((((c.length : Int)) % 256)), u8 (rp % 256), u8 0] ++ c)),
  St' ((List.replicate (rp).toNat 0)),
  St' (([u8 1, u8 (rt % 256), u8 ((ri / 256) % 256), u8 ((ri % 256)), u8 ((((c.length : Int)) / 256) % 256), u8 ((((c.length : Int)) % 256)), u8 (rp % 256), u8 0] ++ (c ++ (List.replicate (rp).toNat 0)))),
  .int .i64 (max n 0),
  .int .i64 (-((max n 0))),
  .int .i64 ((-((max n 0))) % 8),
  .int .i64 (max 0 n),
  .int .i64 ((max 0 n) % 8),
  .int .i64 (8 - ((max 0 n) % 8)),
  .int .i64 ((8 - ((max 0 n) % 8)) % 8)]
theorem one0 (rt : Int) (ri : Int) (c : List UInt8) (rp : Int) (s : List UInt8) (n : Int) : ∀ j, (nuL (nu0 rt ri c rp s n) j).oneCell' = true := nuL_one (l := nu0 rt ri c rp s n) rfl
set_option maxHeartbeats 2000000 in
theorem hyOk0 (rt : Int) (ri : Int) (c : List UInt8) (rp : Int) (s : List UInt8) (n : Int) (b0 : -9223372036854775808 ≤ rt) (b1 : rt ≤ 9223372036854775807) (b2 : -9223372036854775808 ≤ ri) (b3 : ri ≤ 9223372036854775807) (b4 : c.length ≤ 9223372036854775807) (b5 : -9223372036854775808 ≤ rp) (b6 : rp ≤ 9223372036854775807) (b7 : s.length ≤ 9223372036854775807) (b8 : -9223372036854775808 ≤ n) (b9 : n ≤ 9223372036854775807) (h0 : ¬ (3000 < (s.length : Int))) (h1 : ¬ (70000 < (c.length : Int))) (h2 : (s.length : Int) = 0) (h5 : 1 ≤ rt) (h6 : rt ≤ 255) (h7 : 0 ≤ ri) (h8 : ri ≤ 65535) (h9 : (c.length : Int) ≤ 65535) (h10 : 0 ≤ rp) (h11 : rp ≤ 255) : ∀ k r, (k, r) ∈ hy0 → HOk (cx (nuL (nu0 rt ri c rp s n)) (one0 rt ri c rp s n) 1 laidE laidE_stab) k r := by
  unfold hy0
  refine hcons (kLenE (isX rfl) (denX rfl) (by first | omega | (simp only [List.length_append, List.length_cons, List.length_nil, List.length_take, List.length_drop, List.length_replicate, Int.natCast_add] at *; omega))) ?_
  refine hcons (kGt (isX rfl) (isZ (m := 3000) rfl) (decide_eq_false (by omega))) ?_
  refine hcons (kLenE (isX rfl) (denX rfl) (by first | omega | (simp only [List.length_append, List.length_cons, List.length_nil, List.length_take, List.length_drop, List.length_replicate, Int.natCast_add] at *; omega))) ?_
  refine hcons (kGt (isX rfl) (isZ (m := 70000) rfl) (decide_eq_false (by omega))) ?_
  refine hcons (kNeS (isX rfl) (isSx (l := ([] : List UInt8)) 0 0 rfl) (bnF (by first | exact nilT (by first | omega | (simp only [List.length_append, List.length_cons, List.length_nil, List.length_take, List.length_drop, List.length_replicate, Int.natCast_add] at *; omega)) | exact nilF (by first | omega | (simp only [List.length_append, List.length_cons, List.length_nil, List.length_take, List.length_drop, List.length_replicate, Int.natCast_add] at *; omega)) | exact nilT' (by first | omega | (simp only [List.length_append, List.length_cons, List.length_nil, List.length_take, List.length_drop, List.length_replicate, Int.natCast_add] at *; omega)) | exact nilF' (by first | omega | (simp only [List.length_append, List.length_cons, List.length_nil, List.length_take, List.length_drop, List.length_replicate, Int.natCast_add] at *; omega))))) ?_
  refine hcons (kLt (isX rfl) (isZ (m := 8) rfl) (decide_eq_true (by omega))) ?_
  refine hcons (kGt (isX rfl) (isZ (m := 0) rfl) (decide_eq_false (by omega))) ?_
  refine hcons (kGe (isX rfl) (isZ (m := 1) rfl) (decide_eq_true (by omega))) ?_
  refine hcons (kLe (isX rfl) (isZ (m := 255) rfl) (decide_eq_true (by omega))) ?_
  refine hcons (kGe (isX rfl) (isZ (m := 0) rfl) (decide_eq_true (by omega))) ?_
  refine hcons (kLe (isX rfl) (isZ (m := 65535) rfl) (decide_eq_true (by omega))) ?_
  refine hcons (kLe (isX rfl) (isZ (m := 65535) rfl) (decide_eq_true (by omega))) ?_
  refine hcons (kGe (isX rfl) (isZ (m := 0) rfl) (decide_eq_true (by omega))) ?_
  refine hcons (kLe (isX rfl) (isZ (m := 255) rfl) (decide_eq_true (by omega))) ?_
  refine hcons (kConv8 (isX rfl) tu5 (denX rfl) rfl) ?_
  refine hcons (kShrM 8 256 rfl (isX rfl) (isZ (m := 8) rfl) (denX rfl) rfl (by decide) (by omega) rfl) ?_
  refine hcons (kConv8 (isX rfl) tu5 (denX rfl) rfl) ?_
  refine hcons (kConv8 (isX rfl) tu5 (denX rfl) rfl) ?_
  refine hcons (kShrM 8 256 rfl (isX rfl) (isZ (m := 8) rfl) (denX rfl) rfl (by decide) (by omega) rfl) ?_
  refine hcons (kConv8 (isX rfl) tu5 (denX rfl) rfl) ?_
  refine hcons (kConv8 (isX rfl) tu5 (denX rfl) rfl) ?_
  refine hcons (kConv8 (isX rfl) tu5 (denX rfl) rfl) ?_
  refine hcons (kBytesB (bs := [u8 1, u8 (rt % 256), u8 ((ri / 256) % 256), u8 (ri % 256), u8 ((((c.length : Int)) / 256) % 256), u8 (((c.length : Int)) % 256), u8 (rp % 256), u8 0]) (.cons (isB8 (isZ (m := 1) rfl) (by omega) (by omega)) (.cons (isB8 (isX rfl) (by omega) (by omega)) (.cons (isB8 (isX rfl) (by omega) (by omega)) (.cons (isB8 (isX rfl) (by omega) (by omega)) (.cons (isB8 (isX rfl) (by omega) (by omega)) (.cons (isB8 (isX rfl) (by omega) (by omega)) (.cons (isB8 (isX rfl) (by omega) (by omega)) (.cons (isB8 (isZ (m := 0) rfl) (by omega) (by omega)) .nil)))))))) (denX rfl)) ?_
  refine hcons (kCat (isX rfl) (isX rfl) (denX rfl) (by first | rfl | (simp only [List.append_assoc, List.cons_append, List.nil_append, List.append_nil]; done)) (by first | omega | (simp only [List.length_append, List.length_cons, List.length_nil, List.length_take, List.length_drop, List.length_replicate, Int.natCast_add] at *; omega))) ?_
  refine hcons (hokRep rfl rfl (by omega) (by omega)) ?_
  refine hcons (kCat (isX rfl) (isX rfl) (denX rfl) (by first | rfl | (simp only [List.append_assoc, List.cons_append, List.nil_append, List.append_nil]; done)) (by first | omega | (simp only [List.length_append, List.length_cons, List.length_nil, List.length_take, List.length_drop, List.length_replicate, Int.natCast_add] at *; omega))) ?_
  refine hcons (kBytesB (bs := [u8 1, u8 (rt % 256)]) (.cons (isB8 (isZ (m := 1) rfl) (by omega) (by omega)) (.cons (isB8 (isX rfl) (by omega) (by omega)) .nil)) (denX rfl)) ?_
  refine hcons (kQuo (isX rfl) (isZ (m := 256) rfl) (denX rfl) (by omega) (by omega) rfl (fI64 (by omega) (by omega))) ?_
  refine hcons (kConv8 (isX rfl) tu5 (denX rfl) rfl) ?_
  refine hcons (kRem (isX rfl) (isZ (m := 256) rfl) (denX rfl) (by omega) (by omega) rfl) ?_
  refine hcons (kConvF (isX rfl) tu5 (denX rfl) (fU8 (by omega) (by omega))) ?_
  refine hcons (kBytesB (bs := [u8 ((ri / 256) % 256), u8 ((ri % 256))]) (.cons (isB8 (isX rfl) (by omega) (by omega)) (.cons (isB8 (isX rfl) (by omega) (by omega)) .nil)) (denX rfl)) ?_
  refine hcons (kCat (isX rfl) (isX rfl) (denX rfl) (by first | rfl | (simp only [List.append_assoc, List.cons_append, List.nil_append, List.append_nil]; done)) (by first | omega | (simp only [List.length_append, List.length_cons, List.length_nil, List.length_take, List.length_drop, List.length_replicate, Int.natCast_add] at *; omega))) ?_
  refine hcons (kQuo (isX rfl) (isZ (m := 256) rfl) (denX rfl) (by omega) (by omega) rfl (fI64 (by omega) (by omega))) ?_
  refine hcons (kConv8 (isX rfl) tu5 (denX rfl) rfl) ?_
  refine hcons (kRem (isX rfl) (isZ (m := 256) rfl) (denX rfl) (by omega) (by omega) rfl) ?_
  refine hcons (kConvF (isX rfl) tu5 (denX rfl) (fU8 (by omega) (by omega))) ?_
  refine hcons (kBytesB (bs := [u8 ((((c.length : Int)) / 256) % 256), u8 ((((c.length : Int)) % 256))]) (.cons (isB8 (isX rfl) (by omega) (by omega)) (.cons (isB8 (isX rfl) (by omega) (by omega)) .nil)) (denX rfl)) ?_
  refine hcons (kCat (isX rfl) (isX rfl) (denX rfl) (by first | rfl | (simp only [List.append_assoc, List.cons_append, List.nil_append, List.append_nil]; done)) (by first | omega | (simp only [List.length_append, List.length_cons, List.length_nil, List.length_take, List.length_drop, List.length_replicate, Int.natCast_add] at *; omega))) ?_
  refine hcons (kBytesB (bs := [u8 (rp % 256), u8 0]) (.cons (isB8 (isX rfl) (by omega) (by omega)) (.cons (isB8 (isZ (m := 0) rfl) (by omega) (by omega)) .nil)) (denX rfl)) ?_
  refine hcons (kCat (isX rfl) (isX rfl) (denX rfl) (by first | rfl | (simp only [List.append_assoc, List.cons_append, List.nil_append, List.append_nil]; done)) (by first | omega | (simp only [List.length_append, List.length_cons, List.length_nil, List.length_take, List.length_drop, List.length_replicate, Int.natCast_add] at *; omega))) ?_
  refine hcons (kCat (isX rfl) (isX rfl) (denX rfl) (by first | rfl | (simp only [List.append_assoc, List.cons_append, List.nil_append, List.append_nil]; done)) (by first | omega | (simp only [List.length_append, List.length_cons, List.length_nil, List.length_take, List.length_drop, List.length_replicate, Int.natCast_add] at *; omega))) ?_
  refine hcons (kZer (isX rfl) (by omega) (by omega) (denX rfl)) ?_
  refine hcons (kCat (isX rfl) (isX rfl) (denX rfl) (by first | rfl | (simp only [List.append_assoc, List.cons_append, List.nil_append, List.append_nil]; done)) (by first | omega | (simp only [List.length_append, List.length_cons, List.length_nil, List.length_take, List.length_drop, List.length_replicate, Int.natCast_add] at *; omega))) ?_
  refine hcons (kEqS (isX rfl) (isX rfl) (by first | exact decide_eq_true rfl | exact decide_eq_true ‹_› | exact decide_eq_false ‹_›)) ?_
  refine hcons (kEqS (isX rfl) (isX rfl) (decide_eq_true rfl)) ?_
  refine hcons (kMax (isX rfl) (isZ (m := 0) rfl) (denX rfl) rfl) ?_
  refine hcons (kNeg (isX rfl) (denX rfl) (by omega) (fI64 (by omega) (by omega))) ?_
  refine hcons (kAndG 3 8 rfl (by decide) (isX rfl) (isZ (m := 7) rfl) (denX rfl) (fI64 (by omega) (by omega)) rfl rfl (fI64 (by omega) (by omega))) ?_
  refine hcons (kMax (isZ (m := 0) rfl) (isX rfl) (denX rfl) rfl) ?_
  refine hcons (kRem (isX rfl) (isZ (m := 8) rfl) (denX rfl) (by omega) (by omega) rfl) ?_
  refine hcons (kSub (isZ (m := 8) rfl) (isX rfl) (denX rfl) (by omega) (fI64 (by omega) (by omega))) ?_
  refine hcons (kRem (isX rfl) (isZ (m := 8) rfl) (denX rfl) (by omega) (by omega) rfl) ?_
  refine hcons (kEqI (isX rfl) (isX rfl) (decide_eq_true (by omega))) ?_
  exact hnil
theorem path0 (rt : Int) (ri : Int) (c : List UInt8) (rp : Int) (s : List UInt8) (n : Int) (b0 : -9223372036854775808 ≤ rt) (b1 : rt ≤ 9223372036854775807) (b2 : -9223372036854775808 ≤ ri) (b3 : ri ≤ 9223372036854775807) (b4 : c.length ≤ 9223372036854775807) (b5 : -9223372036854775808 ≤ rp) (b6 : rp ≤ 9223372036854775807) (b7 : s.length ≤ 9223372036854775807) (b8 : -9223372036854775808 ≤ n) (b9 : n ≤ 9223372036854775807) (h0 : ¬ (3000 < (s.length : Int))) (h1 : ¬ (70000 < (c.length : Int))) (h2 : (s.length : Int) = 0) (h5 : 1 ≤ rt) (h6 : rt ≤ 255) (h7 : 0 ≤ ri) (h8 : ri ≤ 65535) (h9 : (c.length : Int) ≤ 65535) (h10 : 0 ≤ rp) (h11 : rp ≤ 255) (w : World) (hl : laidE w) : Calls Tryd.prog 5 #[.agg #[.int .i64 rt, .int .i64 ri, St' c, .int .i64 rp], St' s, .int .i64 n] w fun e w' => e = .returned (.bool true) ∧ Go.AX.Below w.heap.size w w' := by
  obtain ⟨fi, hfi, hb⟩ : ∃ fi, tabk.fn.get 5 = some fi ∧ fi.body.isSome = true := ⟨_, rfl, by kernel_rfl⟩
  exact runP (tb := tab0) ((tabkOk (nuL (nu0 rt ri c rp s n)) (one0 rt ri c rp s n)).hyps (hyOk0 rt ri c rp s n b0 b1 b2 b3 b4 b5 b6 b7 b8 b9 h0 h1 h2 h5 h6 h7 h8 h9 h10 h11)) rfl hfi hb (fun e => run0 e ) (args := [.agg #[.int .i64 rt, .int .i64 ri, St' c, .int .i64 rp], St' s, .int .i64 n]) (by simp only [RelL, Rel]; exact ⟨_, _, rfl, ⟨_, rfl, ⟨_, _, rfl, rfl, ⟨_, _, rfl, rfl, ⟨_, _, rfl, rfl, ⟨_, _, rfl, rfl, rfl⟩⟩⟩⟩⟩, ⟨_, _, rfl, rfl, ⟨_, _, rfl, rfl, rfl⟩⟩⟩) w hl
def hy1 : List (HK × AV) := [(.len (.x 4), .x 6),
  (.bin .gtr (.x 6) (.i .i64 (.ofNat 3000)), .b false),
  (.len (.x 2), .x 7),
  (.bin .gtr (.x 7) (.i .i64 (.ofNat 70000)), .b false),
  (.bin .neq (.x 4) (.s 0 0), .b true),
  (.idx (.x 4) (.i .i64 (.ofNat 0)), .x 8),
  (.bin .neq (.x 8) (.i .u8 (.ofNat 1)), .b true),
  (.bin .gtr (.x 6) (.i .i64 (.ofNat 0)), .b true),
  (.bin .geq (.x 0) (.i .i64 (.ofNat 1)), .b true),
  (.bin .leq (.x 0) (.i .i64 (.ofNat 255)), .b true),
  (.bin .geq (.x 1) (.i .i64 (.ofNat 0)), .b true),
  (.bin .leq (.x 1) (.i .i64 (.ofNat 65535)), .b true),
  (.bin .leq (.x 7) (.i .i64 (.ofNat 65535)), .b true),
  (.bin .geq (.x 3) (.i .i64 (.ofNat 0)), .b true),
  (.bin .leq (.x 3) (.i .i64 (.ofNat 255)), .b true),
  (.conv 5 (.x 0), .x 9),
  (.bin .shr (.x 1) (.i .u64 (.ofNat 8)), .x 10),
  (.conv 5 (.x 10), .x 11),
  (.conv 5 (.x 1), .x 12),
  (.bin .shr (.x 7) (.i .u64 (.ofNat 8)), .x 13),
  (.conv 5 (.x 13), .x 14),
  (.conv 5 (.x 7), .x 15),
  (.conv 5 (.x 3), .x 16),
  (.bytes [.i .u8 (.ofNat 1), .x 9, .x 11, .x 12, .x 14, .x 15, .x 16, .i .u8 (.ofNat 0)], .x 17),
  (.bin .add (.x 17) (.x 2), .x 18),
  (.call 81 [.s 1 0, .x 3], .x 19),
  (.bin .add (.x 18) (.x 19), .x 20),
  (.bytes [.i .u8 (.ofNat 1), .x 9], .x 21),
  (.bin .quo (.x 1) (.i .i64 (.ofNat 256)), .x 22),
  (.conv 5 (.x 22), .x 23),
  (.bin .rem (.x 1) (.i .i64 (.ofNat 256)), .x 24),
  (.conv 5 (.x 24), .x 25),
  (.bytes [.x 23, .x 25], .x 26),
  (.bin .add (.x 21) (.x 26), .x 27),
  (.bin .quo (.x 7) (.i .i64 (.ofNat 256)), .x 28),
  (.conv 5 (.x 28), .x 29),
  (.bin .rem (.x 7) (.i .i64 (.ofNat 256)), .x 30),
  (.conv 5 (.x 30), .x 31),
  (.bytes [.x 29, .x 31], .x 32),
  (.bin .add (.x 27) (.x 32), .x 33),
  (.bytes [.x 16, .i .u8 (.ofNat 0)], .x 34),
  (.bin .add (.x 33) (.x 34), .x 35),
  (.bin .add (.x 35) (.x 2), .x 36),
  (.zer (.x 3), .x 37),
  (.bin .add (.x 36) (.x 37), .x 38),
  (.bin .eql (.x 20) (.x 38), .b true),
  (.bin .eql (.x 4) (.x 4), .b true),
  (.mm true (.x 5) (.i .i64 (.ofNat 0)), .x 39),
  (.un .neg (.x 39), .x 40),
  (.bin .and (.x 40) (.i .i64 (.ofNat 7)), .x 41),
  (.mm true (.i .i64 (.ofNat 0)) (.x 5), .x 42),
  (.bin .rem (.x 42) (.i .i64 (.ofNat 8)), .x 43),
  (.bin .sub (.i .i64 (.ofNat 8)) (.x 43), .x 44),
  (.bin .rem (.x 44) (.i .i64 (.ofNat 8)), .x 45),
  (.bin .eql (.x 41) (.x 45), .b true)]
noncomputable def tab1 : Tab := { tabk with hyp := hy1 }
theorem run1 (e : Nat) : okB (call tab1 9000 5 [.ag [.x 0, .x 1, .x 2, .x 3], .x 4, .x 5] ⟨H0 e , 7, 0, 0⟩) = true := by kernel_rfl
def nu1 (rt : Int) (ri : Int) (c : List UInt8) (rp : Int) (s : List UInt8) (n : Int) : List Value := [.int .i64 (rt),
  .int .i64 (ri),
  St' c,
  .int .i64 (rp),
  St' s,
  .int .i64 (n),
  .int .i64 ((s.length : Int)),
  .int .i64 ((c.length : Int)),
  .int .u8 (bt s 0),
  .int .u8 (rt % 256),
  .int .i64 (ri / 256),
  .int .u8 ((ri / 256) % 256),
  .int .u8 (ri % 256),
  .int .i64 (((c.length : Int)) / 256),
  .int .u8 ((((c.length : Int)) / 256) % 256),
  .int .u8 (((c.length : Int)) % 256),
  .int .u8 (rp % 256),
  St' ([u8 1, u8 (rt % 256), u8 ((ri / 256) % 256), u8 (ri % 256), u8 ((((c.length : Int)) / 256) % 256), u8 (((c.length : Int)) % 256), u8 (rp % 256), u8 0]),
  St' (([u8 1, u8 (rt % 256), u8 ((ri / 256) % 256), u8 (ri % 256), u8 ((((c.length : Int)) / 256) % 256), u8 (((c.length : Int)) % 256), u8 (rp % 256), u8 0] ++ c)),
  St' ((List.replicate (rp).toNat 0)),
  St' (([u8 1, u8 (rt % 256), u8 ((ri / 256) % 256), u8 (ri % 256), u8 ((((c.length : Int)) / 256) % 256), u8 (((c.length : Int)) % 256), u8 (rp % 256), u8 0] ++ (c ++ (List.replicate (rp).toNat 0)))),
  St' ([u8 1, u8 (rt % 256)]),
  .int .i64 (ri / 256),
  .int .u8 ((ri / 256) % 256),
  .int .i64 (ri % 256),
  .int .u8 ((ri % 256)),
  St' ([u8 ((ri / 256) % 256), u8 ((ri % 256))]),
  St' ([u8 1, u8 (rt % 256), u8 ((ri / 256) % 256), u8 ((ri % 256))]),
  .int .i64 (((c.length : Int)) / 256),
  .int .u8 ((((c.length : Int)) / 256) % 256),
  .int .i64 (((c.length : Int)) % 256),
  .int .u8 ((((c.length : Int)) % 256)),
  St' ([u8 ((((c.length : Int)) / 256) % 256), u8 ((((c.length : Int)) % 256))]),
  St' ([u8 1, u8 (rt % 256), u8 ((ri / 256) % 256), u8 ((ri % 256)), u8 ((((c.length : Int)) / 256) % 256), u8 ((((c.length : Int)) % 256))]),
  St' ([u8 (rp % 256), u8 0]),
  St' ([u8 1, u8 (rt % 256), u8 ((ri / 256) % 256), u8 ((ri % 256)), u8 ((((c.length : Int)) / 256) % 256), u8 ((((c.length : Int)) % 256)), u8 (rp % 256), u8 0]),
  St' (([u8 1, u8 (rt % 256), u8 ((ri / 256) % 256), u8 ((ri % 256)), u8 ((((c.length : Int)) / 256) % 256), u8 ((((c.length : Int)) % 256)), u8 (rp % 256), u8 0] ++ c)),
  St' ((List.replicate (rp).toNat 0)),
  St' (([u8 1, u8 (rt % 256), u8 ((ri / 256) % 256), u8 ((ri % 256)), u8 ((((c.length : Int)) / 256) % 256), u8 ((((c.length : Int)) % 256)), u8 (rp % 256), u8 0] ++ (c ++ (List.replicate (rp).toNat 0)))),
  .int .i64 (max n 0),
  .int .i64 (-((max n 0))),
  .int .i64 ((-((max n 0))) % 8),
  .int .i64 (max 0 n),
  .int .i64 ((max 0 n) % 8),
  .int .i64 (8 - ((max 0 n) % 8)),
  .int .i64 ((8 - ((max 0 n) % 8)) % 8)]
theorem one1 (rt : Int) (ri : Int) (c : List UInt8) (rp : Int) (s : List UInt8) (n : Int) : ∀ j, (nuL (nu1 rt ri c rp s n) j).oneCell' = true := nuL_one (l := nu1 rt ri c rp s n) rfl
set_option maxHeartbeats 2000000 in
theorem hyOk1 (rt : Int) (ri : Int) (c : List UInt8) (rp : Int) (s : List UInt8) (n : Int) (b0 : -9223372036854775808 ≤ rt) (b1 : rt ≤ 9223372036854775807) (b2 : -9223372036854775808 ≤ ri) (b3 : ri ≤ 9223372036854775807) (b4 : c.length ≤ 9223372036854775807) (b5 : -9223372036854775808 ≤ rp) (b6 : rp ≤ 9223372036854775807) (b7 : s.length ≤ 9223372036854775807) (b8 : -9223372036854775808 ≤ n) (b9 : n ≤ 9223372036854775807) (h0 : ¬ (3000 < (s.length : Int))) (h1 : ¬ (70000 < (c.length : Int))) (h2 : ¬ ((s.length : Int) = 0)) (h3 : ¬ (bt s 0 = 1)) (h5 : 1 ≤ rt) (h6 : rt ≤ 255) (h7 : 0 ≤ ri) (h8 : ri ≤ 65535) (h9 : (c.length : Int) ≤ 65535) (h10 : 0 ≤ rp) (h11 : rp ≤ 255) : ∀ k r, (k, r) ∈ hy1 → HOk (cx (nuL (nu1 rt ri c rp s n)) (one1 rt ri c rp s n) 1 laidE laidE_stab) k r := by
  have := bt_lo s 0; have := bt_hi s 0
  unfold hy1
  refine hcons (kLenE (isX rfl) (denX rfl) (by first | omega | (simp only [List.length_append, List.length_cons, List.length_nil, List.length_take, List.length_drop, List.length_replicate, Int.natCast_add] at *; omega))) ?_
  refine hcons (kGt (isX rfl) (isZ (m := 3000) rfl) (decide_eq_false (by omega))) ?_
  refine hcons (kLenE (isX rfl) (denX rfl) (by first | omega | (simp only [List.length_append, List.length_cons, List.length_nil, List.length_take, List.length_drop, List.length_replicate, Int.natCast_add] at *; omega))) ?_
  refine hcons (kGt (isX rfl) (isZ (m := 70000) rfl) (decide_eq_false (by omega))) ?_
  refine hcons (kNeS (isX rfl) (isSx (l := ([] : List UInt8)) 0 0 rfl) (bnT (by first | exact nilT (by first | omega | (simp only [List.length_append, List.length_cons, List.length_nil, List.length_take, List.length_drop, List.length_replicate, Int.natCast_add] at *; omega)) | exact nilF (by first | omega | (simp only [List.length_append, List.length_cons, List.length_nil, List.length_take, List.length_drop, List.length_replicate, Int.natCast_add] at *; omega)) | exact nilT' (by first | omega | (simp only [List.length_append, List.length_cons, List.length_nil, List.length_take, List.length_drop, List.length_replicate, Int.natCast_add] at *; omega)) | exact nilF' (by first | omega | (simp only [List.length_append, List.length_cons, List.length_nil, List.length_take, List.length_drop, List.length_replicate, Int.natCast_add] at *; omega))))) ?_
  refine hcons (kIdxE (i := 0) (isX rfl) (isZ (m := 0) rfl) (denX rfl) rfl (by first | omega | (simp only [List.length_append, List.length_cons, List.length_nil, List.length_take, List.length_drop, List.length_replicate, Int.natCast_add] at *; omega)) rfl) ?_
  refine hcons (kNeI (isX rfl) (isZ (m := 1) rfl) (neT (by omega))) ?_
  refine hcons (kGt (isX rfl) (isZ (m := 0) rfl) (decide_eq_true (by omega))) ?_
  refine hcons (kGe (isX rfl) (isZ (m := 1) rfl) (decide_eq_true (by omega))) ?_
  refine hcons (kLe (isX rfl) (isZ (m := 255) rfl) (decide_eq_true (by omega))) ?_
  refine hcons (kGe (isX rfl) (isZ (m := 0) rfl) (decide_eq_true (by omega))) ?_
  refine hcons (kLe (isX rfl) (isZ (m := 65535) rfl) (decide_eq_true (by omega))) ?_
  refine hcons (kLe (isX rfl) (isZ (m := 65535) rfl) (decide_eq_true (by omega))) ?_
  refine hcons (kGe (isX rfl) (isZ (m := 0) rfl) (decide_eq_true (by omega))) ?_
  refine hcons (kLe (isX rfl) (isZ (m := 255) rfl) (decide_eq_true (by omega))) ?_
  refine hcons (kConv8 (isX rfl) tu5 (denX rfl) rfl) ?_
  refine hcons (kShrM 8 256 rfl (isX rfl) (isZ (m := 8) rfl) (denX rfl) rfl (by decide) (by omega) rfl) ?_
  refine hcons (kConv8 (isX rfl) tu5 (denX rfl) rfl) ?_
  refine hcons (kConv8 (isX rfl) tu5 (denX rfl) rfl) ?_
  refine hcons (kShrM 8 256 rfl (isX rfl) (isZ (m := 8) rfl) (denX rfl) rfl (by decide) (by omega) rfl) ?_
  refine hcons (kConv8 (isX rfl) tu5 (denX rfl) rfl) ?_
  refine hcons (kConv8 (isX rfl) tu5 (denX rfl) rfl) ?_
  refine hcons (kConv8 (isX rfl) tu5 (denX rfl) rfl) ?_
  refine hcons (kBytesB (bs := [u8 1, u8 (rt % 256), u8 ((ri / 256) % 256), u8 (ri % 256), u8 ((((c.length : Int)) / 256) % 256), u8 (((c.length : Int)) % 256), u8 (rp % 256), u8 0]) (.cons (isB8 (isZ (m := 1) rfl) (by omega) (by omega)) (.cons (isB8 (isX rfl) (by omega) (by omega)) (.cons (isB8 (isX rfl) (by omega) (by omega)) (.cons (isB8 (isX rfl) (by omega) (by omega)) (.cons (isB8 (isX rfl) (by omega) (by omega)) (.cons (isB8 (isX rfl) (by omega) (by omega)) (.cons (isB8 (isX rfl) (by omega) (by omega)) (.cons (isB8 (isZ (m := 0) rfl) (by omega) (by omega)) .nil)))))))) (denX rfl)) ?_
  refine hcons (kCat (isX rfl) (isX rfl) (denX rfl) (by first | rfl | (simp only [List.append_assoc, List.cons_append, List.nil_append, List.append_nil]; done)) (by first | omega | (simp only [List.length_append, List.length_cons, List.length_nil, List.length_take, List.length_drop, List.length_replicate, Int.natCast_add] at *; omega))) ?_
  refine hcons (hokRep rfl rfl (by omega) (by omega)) ?_
  refine hcons (kCat (isX rfl) (isX rfl) (denX rfl) (by first | rfl | (simp only [List.append_assoc, List.cons_append, List.nil_append, List.append_nil]; done)) (by first | omega | (simp only [List.length_append, List.length_cons, List.length_nil, List.length_take, List.length_drop, List.length_replicate, Int.natCast_add] at *; omega))) ?_
  refine hcons (kBytesB (bs := [u8 1, u8 (rt % 256)]) (.cons (isB8 (isZ (m := 1) rfl) (by omega) (by omega)) (.cons (isB8 (isX rfl) (by omega) (by omega)) .nil)) (denX rfl)) ?_
  refine hcons (kQuo (isX rfl) (isZ (m := 256) rfl) (denX rfl) (by omega) (by omega) rfl (fI64 (by omega) (by omega))) ?_
  refine hcons (kConv8 (isX rfl) tu5 (denX rfl) rfl) ?_
  refine hcons (kRem (isX rfl) (isZ (m := 256) rfl) (denX rfl) (by omega) (by omega) rfl) ?_
  refine hcons (kConvF (isX rfl) tu5 (denX rfl) (fU8 (by omega) (by omega))) ?_
  refine hcons (kBytesB (bs := [u8 ((ri / 256) % 256), u8 ((ri % 256))]) (.cons (isB8 (isX rfl) (by omega) (by omega)) (.cons (isB8 (isX rfl) (by omega) (by omega)) .nil)) (denX rfl)) ?_
  refine hcons (kCat (isX rfl) (isX rfl) (denX rfl) (by first | rfl | (simp only [List.append_assoc, List.cons_append, List.nil_append, List.append_nil]; done)) (by first | omega | (simp only [List.length_append, List.length_cons, List.length_nil, List.length_take, List.length_drop, List.length_replicate, Int.natCast_add] at *; omega))) ?_
  refine hcons (kQuo (isX rfl) (isZ (m := 256) rfl) (denX rfl) (by omega) (by omega) rfl (fI64 (by omega) (by omega))) ?_
  refine hcons (kConv8 (isX rfl) tu5 (denX rfl) rfl) ?_
  refine hcons (kRem (isX rfl) (isZ (m := 256) rfl) (denX rfl) (by omega) (by omega) rfl) ?_
  refine hcons (kConvF (isX rfl) tu5 (denX rfl) (fU8 (by omega) (by omega))) ?_
  refine hcons (kBytesB (bs := [u8 ((((c.length : Int)) / 256) % 256), u8 ((((c.length : Int)) % 256))]) (.cons (isB8 (isX rfl) (by omega) (by omega)) (.cons (isB8 (isX rfl) (by omega) (by omega)) .nil)) (denX rfl)) ?_
  refine hcons (kCat (isX rfl) (isX rfl) (denX rfl) (by first | rfl | (simp only [List.append_assoc, List.cons_append, List.nil_append, List.append_nil]; done)) (by first | omega | (simp only [List.length_append, List.length_cons, List.length_nil, List.length_take, List.length_drop, List.length_replicate, Int.natCast_add] at *; omega))) ?_
  refine hcons (kBytesB (bs := [u8 (rp % 256), u8 0]) (.cons (isB8 (isX rfl) (by omega) (by omega)) (.cons (isB8 (isZ (m := 0) rfl) (by omega) (by omega)) .nil)) (denX rfl)) ?_
  refine hcons (kCat (isX rfl) (isX rfl) (denX rfl) (by first | rfl | (simp only [List.append_assoc, List.cons_append, List.nil_append, List.append_nil]; done)) (by first | omega | (simp only [List.length_append, List.length_cons, List.length_nil, List.length_take, List.length_drop, List.length_replicate, Int.natCast_add] at *; omega))) ?_
  refine hcons (kCat (isX rfl) (isX rfl) (denX rfl) (by first | rfl | (simp only [List.append_assoc, List.cons_append, List.nil_append, List.append_nil]; done)) (by first | omega | (simp only [List.length_append, List.length_cons, List.length_nil, List.length_take, List.length_drop, List.length_replicate, Int.natCast_add] at *; omega))) ?_
  refine hcons (kZer (isX rfl) (by omega) (by omega) (denX rfl)) ?_
  refine hcons (kCat (isX rfl) (isX rfl) (denX rfl) (by first | rfl | (simp only [List.append_assoc, List.cons_append, List.nil_append, List.append_nil]; done)) (by first | omega | (simp only [List.length_append, List.length_cons, List.length_nil, List.length_take, List.length_drop, List.length_replicate, Int.natCast_add] at *; omega))) ?_
  refine hcons (kEqS (isX rfl) (isX rfl) (by first | exact decide_eq_true rfl | exact decide_eq_true ‹_› | exact decide_eq_false ‹_›)) ?_
  refine hcons (kEqS (isX rfl) (isX rfl) (decide_eq_true rfl)) ?_
  refine hcons (kMax (isX rfl) (isZ (m := 0) rfl) (denX rfl) rfl) ?_
  refine hcons (kNeg (isX rfl) (denX rfl) (by omega) (fI64 (by omega) (by omega))) ?_
  refine hcons (kAndG 3 8 rfl (by decide) (isX rfl) (isZ (m := 7) rfl) (denX rfl) (fI64 (by omega) (by omega)) rfl rfl (fI64 (by omega) (by omega))) ?_
  refine hcons (kMax (isZ (m := 0) rfl) (isX rfl) (denX rfl) rfl) ?_
  refine hcons (kRem (isX rfl) (isZ (m := 8) rfl) (denX rfl) (by omega) (by omega) rfl) ?_
  refine hcons (kSub (isZ (m := 8) rfl) (isX rfl) (denX rfl) (by omega) (fI64 (by omega) (by omega))) ?_
  refine hcons (kRem (isX rfl) (isZ (m := 8) rfl) (denX rfl) (by omega) (by omega) rfl) ?_
  refine hcons (kEqI (isX rfl) (isX rfl) (decide_eq_true (by omega))) ?_
  exact hnil
theorem path1 (rt : Int) (ri : Int) (c : List UInt8) (rp : Int) (s : List UInt8) (n : Int) (b0 : -9223372036854775808 ≤ rt) (b1 : rt ≤ 9223372036854775807) (b2 : -9223372036854775808 ≤ ri) (b3 : ri ≤ 9223372036854775807) (b4 : c.length ≤ 9223372036854775807) (b5 : -9223372036854775808 ≤ rp) (b6 : rp ≤ 9223372036854775807) (b7 : s.length ≤ 9223372036854775807) (b8 : -9223372036854775808 ≤ n) (b9 : n ≤ 9223372036854775807) (h0 : ¬ (3000 < (s.length : Int))) (h1 : ¬ (70000 < (c.length : Int))) (h2 : ¬ ((s.length : Int) = 0)) (h3 : ¬ (bt s 0 = 1)) (h5 : 1 ≤ rt) (h6 : rt ≤ 255) (h7 : 0 ≤ ri) (h8 : ri ≤ 65535) (h9 : (c.length : Int) ≤ 65535) (h10 : 0 ≤ rp) (h11 : rp ≤ 255) (w : World) (hl : laidE w) : Calls Tryd.prog 5 #[.agg #[.int .i64 rt, .int .i64 ri, St' c, .int .i64 rp], St' s, .int .i64 n] w fun e w' => e = .returned (.bool true) ∧ Go.AX.Below w.heap.size w w' := by
  obtain ⟨fi, hfi, hb⟩ : ∃ fi, tabk.fn.get 5 = some fi ∧ fi.body.isSome = true := ⟨_, rfl, by kernel_rfl⟩
  exact runP (tb := tab1) ((tabkOk (nuL (nu1 rt ri c rp s n)) (one1 rt ri c rp s n)).hyps (hyOk1 rt ri c rp s n b0 b1 b2 b3 b4 b5 b6 b7 b8 b9 h0 h1 h2 h3 h5 h6 h7 h8 h9 h10 h11)) rfl hfi hb (fun e => run1 e ) (args := [.agg #[.int .i64 rt, .int .i64 ri, St' c, .int .i64 rp], St' s, .int .i64 n]) (by simp only [RelL, Rel]; exact ⟨_, _, rfl, ⟨_, rfl, ⟨_, _, rfl, rfl, ⟨_, _, rfl, rfl, ⟨_, _, rfl, rfl, ⟨_, _, rfl, rfl, rfl⟩⟩⟩⟩⟩, ⟨_, _, rfl, rfl, ⟨_, _, rfl, rfl, rfl⟩⟩⟩) w hl
def hy2 : List (HK × AV) := [(.len (.x 4), .x 6),
  (.bin .gtr (.x 6) (.i .i64 (.ofNat 3000)), .b false),
  (.len (.x 2), .x 7),
  (.bin .gtr (.x 7) (.i .i64 (.ofNat 70000)), .b false),
  (.bin .neq (.x 4) (.s 0 0), .b true),
  (.idx (.x 4) (.i .i64 (.ofNat 0)), .x 8),
  (.bin .neq (.x 8) (.i .u8 (.ofNat 1)), .b false),
  (.bin .lss (.x 6) (.i .i64 (.ofNat 8)), .b true),
  (.bin .gtr (.x 6) (.i .i64 (.ofNat 0)), .b true),
  (.bin .geq (.x 0) (.i .i64 (.ofNat 1)), .b true),
  (.bin .leq (.x 0) (.i .i64 (.ofNat 255)), .b true),
  (.bin .geq (.x 1) (.i .i64 (.ofNat 0)), .b true),
  (.bin .leq (.x 1) (.i .i64 (.ofNat 65535)), .b true),
  (.bin .leq (.x 7) (.i .i64 (.ofNat 65535)), .b true),
  (.bin .geq (.x 3) (.i .i64 (.ofNat 0)), .b true),
  (.bin .leq (.x 3) (.i .i64 (.ofNat 255)), .b true),
  (.conv 5 (.x 0), .x 9),
  (.bin .shr (.x 1) (.i .u64 (.ofNat 8)), .x 10),
  (.conv 5 (.x 10), .x 11),
  (.conv 5 (.x 1), .x 12),
  (.bin .shr (.x 7) (.i .u64 (.ofNat 8)), .x 13),
  (.conv 5 (.x 13), .x 14),
  (.conv 5 (.x 7), .x 15),
  (.conv 5 (.x 3), .x 16),
  (.bytes [.i .u8 (.ofNat 1), .x 9, .x 11, .x 12, .x 14, .x 15, .x 16, .i .u8 (.ofNat 0)], .x 17),
  (.bin .add (.x 17) (.x 2), .x 18),
  (.call 81 [.s 1 0, .x 3], .x 19),
  (.bin .add (.x 18) (.x 19), .x 20),
  (.bytes [.i .u8 (.ofNat 1), .x 9], .x 21),
  (.bin .quo (.x 1) (.i .i64 (.ofNat 256)), .x 22),
  (.conv 5 (.x 22), .x 23),
  (.bin .rem (.x 1) (.i .i64 (.ofNat 256)), .x 24),
  (.conv 5 (.x 24), .x 25),
  (.bytes [.x 23, .x 25], .x 26),
  (.bin .add (.x 21) (.x 26), .x 27),
  (.bin .quo (.x 7) (.i .i64 (.ofNat 256)), .x 28),
  (.conv 5 (.x 28), .x 29),
  (.bin .rem (.x 7) (.i .i64 (.ofNat 256)), .x 30),
  (.conv 5 (.x 30), .x 31),
  (.bytes [.x 29, .x 31], .x 32),
  (.bin .add (.x 27) (.x 32), .x 33),
  (.bytes [.x 16, .i .u8 (.ofNat 0)], .x 34),
  (.bin .add (.x 33) (.x 34), .x 35),
  (.bin .add (.x 35) (.x 2), .x 36),
  (.zer (.x 3), .x 37),
  (.bin .add (.x 36) (.x 37), .x 38),
  (.bin .eql (.x 20) (.x 38), .b true),
  (.bin .eql (.x 4) (.x 4), .b true),
  (.mm true (.x 5) (.i .i64 (.ofNat 0)), .x 39),
  (.un .neg (.x 39), .x 40),
  (.bin .and (.x 40) (.i .i64 (.ofNat 7)), .x 41),
  (.mm true (.i .i64 (.ofNat 0)) (.x 5), .x 42),
  (.bin .rem (.x 42) (.i .i64 (.ofNat 8)), .x 43),
  (.bin .sub (.i .i64 (.ofNat 8)) (.x 43), .x 44),
  (.bin .rem (.x 44) (.i .i64 (.ofNat 8)), .x 45),
  (.bin .eql (.x 41) (.x 45), .b true)]
noncomputable def tab2 : Tab := { tabk with hyp := hy2 }
theorem run2 (e : Nat) : okB (call tab2 9000 5 [.ag [.x 0, .x 1, .x 2, .x 3], .x 4, .x 5] ⟨H0 e , 7, 0, 0⟩) = true := by kernel_rfl
def nu2 (rt : Int) (ri : Int) (c : List UInt8) (rp : Int) (s : List UInt8) (n : Int) : List Value := [.int .i64 (rt),
  .int .i64 (ri),
  St' c,
  .int .i64 (rp),
  St' s,
  .int .i64 (n),
  .int .i64 ((s.length : Int)),
  .int .i64 ((c.length : Int)),
  .int .u8 (bt s 0),
  .int .u8 (rt % 256),
  .int .i64 (ri / 256),
  .int .u8 ((ri / 256) % 256),
  .int .u8 (ri % 256),
  .int .i64 (((c.length : Int)) / 256),
  .int .u8 ((((c.length : Int)) / 256) % 256),
  .int .u8 (((c.length : Int)) % 256),
  .int .u8 (rp % 256),
  St' ([u8 1, u8 (rt % 256), u8 ((ri / 256) % 256), u8 (ri % 256), u8 ((((c.length : Int)) / 256) % 256), u8 (((c.length : Int)) % 256), u8 (rp % 256), u8 0]),
  St' (([u8 1, u8 (rt % 256), u8 ((ri / 256) % 256), u8 (ri % 256), u8 ((((c.length : Int)) / 256) % 256), u8 (((c.length : Int)) % 256), u8 (rp % 256), u8 0] ++ c)),
  St' ((List.replicate (rp).toNat 0)),
  St' (([u8 1, u8 (rt % 256), u8 ((ri / 256) % 256), u8 (ri % 256), u8 ((((c.length : Int)) / 256) % 256), u8 (((c.length : Int)) % 256), u8 (rp % 256), u8 0] ++ (c ++ (List.replicate (rp).toNat 0)))),
  St' ([u8 1, u8 (rt % 256)]),
  .int .i64 (ri / 256),
  .int .u8 ((ri / 256) % 256),
  .int .i64 (ri % 256),
  .int .u8 ((ri % 256)),
  St' ([u8 ((ri / 256) % 256), u8 ((ri % 256))]),
  St' ([u8 1, u8 (rt % 256), u8 ((ri / 256) % 256), u8 ((ri % 256))]),
  .int .i64 (((c.length : Int)) / 256),
  .int .u8 ((((c.length : Int)) / 256) % 256),
  .int .i64 (((c.length : Int)) % 256),
  .int .u8 ((((c.length : Int)) % 256)),
  St' ([u8 ((((c.length : Int)) / 256) % 256), u8 ((((c.length : Int)) % 256))]),
  St' ([u8 1, u8 (rt % 256), u8 ((ri / 256) % 256), u8 ((ri % 256)), u8 ((((c.length : Int)) / 256) % 256), u8 ((((c.length : Int)) % 256))]),
  St' ([u8 (rp % 256), u8 0]),
  St' ([u8 1, u8 (rt % 256), u8 ((ri / 256) % 256), u8 ((ri % 256)), u8 ((((c.length : Int)) / 256) % 256), u8 ((((c.length : Int)) % 256)), u8 (rp % 256), u8 0]),
  St' (([u8 1, u8 (rt % 256), u8 ((ri / 256) % 256), u8 ((ri % 256)), u8 ((((c.length : Int)) / 256) % 256), u8 ((((c.length : Int)) % 256)), u8 (rp % 256), u8 0] ++ c)),
  St' ((List.replicate (rp).toNat 0)),
  St' (([u8 1, u8 (rt % 256), u8 ((ri / 256) % 256), u8 ((ri % 256)), u8 ((((c.length : Int)) / 256) % 256), u8 ((((c.length : Int)) % 256)), u8 (rp % 256), u8 0] ++ (c ++ (List.replicate (rp).toNat 0)))),
  .int .i64 (max n 0),
  .int .i64 (-((max n 0))),
  .int .i64 ((-((max n 0))) % 8),
  .int .i64 (max 0 n),
  .int .i64 ((max 0 n) % 8),
  .int .i64 (8 - ((max 0 n) % 8)),
  .int .i64 ((8 - ((max 0 n) % 8)) % 8)]
theorem one2 (rt : Int) (ri : Int) (c : List UInt8) (rp : Int) (s : List UInt8) (n : Int) : ∀ j, (nuL (nu2 rt ri c rp s n) j).oneCell' = true := nuL_one (l := nu2 rt ri c rp s n) rfl
set_option maxHeartbeats 2000000 in
theorem hyOk2 (rt : Int) (ri : Int) (c : List UInt8) (rp : Int) (s : List UInt8) (n : Int) (b0 : -9223372036854775808 ≤ rt) (b1 : rt ≤ 9223372036854775807) (b2 : -9223372036854775808 ≤ ri) (b3 : ri ≤ 9223372036854775807) (b4 : c.length ≤ 9223372036854775807) (b5 : -9223372036854775808 ≤ rp) (b6 : rp ≤ 9223372036854775807) (b7 : s.length ≤ 9223372036854775807) (b8 : -9223372036854775808 ≤ n) (b9 : n ≤ 9223372036854775807) (h0 : ¬ (3000 < (s.length : Int))) (h1 : ¬ (70000 < (c.length : Int))) (h2 : ¬ ((s.length : Int) = 0)) (h3 : bt s 0 = 1) (h4 : (s.length : Int) < 8) (h6 : 1 ≤ rt) (h7 : rt ≤ 255) (h8 : 0 ≤ ri) (h9 : ri ≤ 65535) (h10 : (c.length : Int) ≤ 65535) (h11 : 0 ≤ rp) (h12 : rp ≤ 255) : ∀ k r, (k, r) ∈ hy2 → HOk (cx (nuL (nu2 rt ri c rp s n)) (one2 rt ri c rp s n) 1 laidE laidE_stab) k r := by
  have := bt_lo s 0; have := bt_hi s 0
  unfold hy2
  refine hcons (kLenE (isX rfl) (denX rfl) (by first | omega | (simp only [List.length_append, List.length_cons, List.length_nil, List.length_take, List.length_drop, List.length_replicate, Int.natCast_add] at *; omega))) ?_
  refine hcons (kGt (isX rfl) (isZ (m := 3000) rfl) (decide_eq_false (by omega))) ?_
  refine hcons (kLenE (isX rfl) (denX rfl) (by first | omega | (simp only [List.length_append, List.length_cons, List.length_nil, List.length_take, List.length_drop, List.length_replicate, Int.natCast_add] at *; omega))) ?_
  refine hcons (kGt (isX rfl) (isZ (m := 70000) rfl) (decide_eq_false (by omega))) ?_
  refine hcons (kNeS (isX rfl) (isSx (l := ([] : List UInt8)) 0 0 rfl) (bnT (by first | exact nilT (by first | omega | (simp only [List.length_append, List.length_cons, List.length_nil, List.length_take, List.length_drop, List.length_replicate, Int.natCast_add] at *; omega)) | exact nilF (by first | omega | (simp only [List.length_append, List.length_cons, List.length_nil, List.length_take, List.length_drop, List.length_replicate, Int.natCast_add] at *; omega)) | exact nilT' (by first | omega | (simp only [List.length_append, List.length_cons, List.length_nil, List.length_take, List.length_drop, List.length_replicate, Int.natCast_add] at *; omega)) | exact nilF' (by first | omega | (simp only [List.length_append, List.length_cons, List.length_nil, List.length_take, List.length_drop, List.length_replicate, Int.natCast_add] at *; omega))))) ?_
  refine hcons (kIdxE (i := 0) (isX rfl) (isZ (m := 0) rfl) (denX rfl) rfl (by first | omega | (simp only [List.length_append, List.length_cons, List.length_nil, List.length_take, List.length_drop, List.length_replicate, Int.natCast_add] at *; omega)) rfl) ?_
  refine hcons (kNeI (isX rfl) (isZ (m := 1) rfl) (neF (by omega))) ?_
  refine hcons (kLt (isX rfl) (isZ (m := 8) rfl) (decide_eq_true (by omega))) ?_
  refine hcons (kGt (isX rfl) (isZ (m := 0) rfl) (decide_eq_true (by omega))) ?_
  refine hcons (kGe (isX rfl) (isZ (m := 1) rfl) (decide_eq_true (by omega))) ?_
  refine hcons (kLe (isX rfl) (isZ (m := 255) rfl) (decide_eq_true (by omega))) ?_
  refine hcons (kGe (isX rfl) (isZ (m := 0) rfl) (decide_eq_true (by omega))) ?_
  refine hcons (kLe (isX rfl) (isZ (m := 65535) rfl) (decide_eq_true (by omega))) ?_
  refine hcons (kLe (isX rfl) (isZ (m := 65535) rfl) (decide_eq_true (by omega))) ?_
  refine hcons (kGe (isX rfl) (isZ (m := 0) rfl) (decide_eq_true (by omega))) ?_
  refine hcons (kLe (isX rfl) (isZ (m := 255) rfl) (decide_eq_true (by omega))) ?_
  refine hcons (kConv8 (isX rfl) tu5 (denX rfl) rfl) ?_
  refine hcons (kShrM 8 256 rfl (isX rfl) (isZ (m := 8) rfl) (denX rfl) rfl (by decide) (by omega) rfl) ?_
  refine hcons (kConv8 (isX rfl) tu5 (denX rfl) rfl) ?_
  refine hcons (kConv8 (isX rfl) tu5 (denX rfl) rfl) ?_
  refine hcons (kShrM 8 256 rfl (isX rfl) (isZ (m := 8) rfl) (denX rfl) rfl (by decide) (by omega) rfl) ?_
  refine hcons (kConv8 (isX rfl) tu5 (denX rfl) rfl) ?_
  refine hcons (kConv8 (isX rfl) tu5 (denX rfl) rfl) ?_
  refine hcons (kConv8 (isX rfl) tu5 (denX rfl) rfl) ?_
  refine hcons (kBytesB (bs := [u8 1, u8 (rt % 256), u8 ((ri / 256) % 256), u8 (ri % 256), u8 ((((c.length : Int)) / 256) % 256), u8 (((c.length : Int)) % 256), u8 (rp % 256), u8 0]) (.cons (isB8 (isZ (m := 1) rfl) (by omega) (by omega)) (.cons (isB8 (isX rfl) (by omega) (by omega)) (.cons (isB8 (isX rfl) (by omega) (by omega)) (.cons (isB8 (isX rfl) (by omega) (by omega)) (.cons (isB8 (isX rfl) (by omega) (by omega)) (.cons (isB8 (isX rfl) (by omega) (by omega)) (.cons (isB8 (isX rfl) (by omega) (by omega)) (.cons (isB8 (isZ (m := 0) rfl) (by omega) (by omega)) .nil)))))))) (denX rfl)) ?_
  refine hcons (kCat (isX rfl) (isX rfl) (denX rfl) (by first | rfl | (simp only [List.append_assoc, List.cons_append, List.nil_append, List.append_nil]; done)) (by first | omega | (simp only [List.length_append, List.length_cons, List.length_nil, List.length_take, List.length_drop, List.length_replicate, Int.natCast_add] at *; omega))) ?_
  refine hcons (hokRep rfl rfl (by omega) (by omega)) ?_
  refine hcons (kCat (isX rfl) (isX rfl) (denX rfl) (by first | rfl | (simp only [List.append_assoc, List.cons_append, List.nil_append, List.append_nil]; done)) (by first | omega | (simp only [List.length_append, List.length_cons, List.length_nil, List.length_take, List.length_drop, List.length_replicate, Int.natCast_add] at *; omega))) ?_
  refine hcons (kBytesB (bs := [u8 1, u8 (rt % 256)]) (.cons (isB8 (isZ (m := 1) rfl) (by omega) (by omega)) (.cons (isB8 (isX rfl) (by omega) (by omega)) .nil)) (denX rfl)) ?_
  refine hcons (kQuo (isX rfl) (isZ (m := 256) rfl) (denX rfl) (by omega) (by omega) rfl (fI64 (by omega) (by omega))) ?_
  refine hcons (kConv8 (isX rfl) tu5 (denX rfl) rfl) ?_
  refine hcons (kRem (isX rfl) (isZ (m := 256) rfl) (denX rfl) (by omega) (by omega) rfl) ?_
  refine hcons (kConvF (isX rfl) tu5 (denX rfl) (fU8 (by omega) (by omega))) ?_
  refine hcons (kBytesB (bs := [u8 ((ri / 256) % 256), u8 ((ri % 256))]) (.cons (isB8 (isX rfl) (by omega) (by omega)) (.cons (isB8 (isX rfl) (by omega) (by omega)) .nil)) (denX rfl)) ?_
  refine hcons (kCat (isX rfl) (isX rfl) (denX rfl) (by first | rfl | (simp only [List.append_assoc, List.cons_append, List.nil_append, List.append_nil]; done)) (by first | omega | (simp only [List.length_append, List.length_cons, List.length_nil, List.length_take, List.length_drop, List.length_replicate, Int.natCast_add] at *; omega))) ?_
  refine hcons (kQuo (isX rfl) (isZ (m := 256) rfl) (denX rfl) (by omega) (by omega) rfl (fI64 (by omega) (by omega))) ?_
  refine hcons (kConv8 (isX rfl) tu5 (denX rfl) rfl) ?_
  refine hcons (kRem (isX rfl) (isZ (m := 256) rfl) (denX rfl) (by omega) (by omega) rfl) ?_
  refine hcons (kConvF (isX rfl) tu5 (denX rfl) (fU8 (by omega) (by omega))) ?_
  refine hcons (kBytesB (bs := [u8 ((((c.length : Int)) / 256) % 256), u8 ((((c.length : Int)) % 256))]) (.cons (isB8 (isX rfl) (by omega) (by omega)) (.cons (isB8 (isX rfl) (by omega) (by omega)) .nil)) (denX rfl)) ?_
  refine hcons (kCat (isX rfl) (isX rfl) (denX rfl) (by first | rfl | (simp only [List.append_assoc, List.cons_append, List.nil_append, List.append_nil]; done)) (by first | omega | (simp only [List.length_append, List.length_cons, List.length_nil, List.length_take, List.length_drop, List.length_replicate, Int.natCast_add] at *; omega))) ?_
  refine hcons (kBytesB (bs := [u8 (rp % 256), u8 0]) (.cons (isB8 (isX rfl) (by omega) (by omega)) (.cons (isB8 (isZ (m := 0) rfl) (by omega) (by omega)) .nil)) (denX rfl)) ?_
  refine hcons (kCat (isX rfl) (isX rfl) (denX rfl) (by first | rfl | (simp only [List.append_assoc, List.cons_append, List.nil_append, List.append_nil]; done)) (by first | omega | (simp only [List.length_append, List.length_cons, List.length_nil, List.length_take, List.length_drop, List.length_replicate, Int.natCast_add] at *; omega))) ?_
  refine hcons (kCat (isX rfl) (isX rfl) (denX rfl) (by first | rfl | (simp only [List.append_assoc, List.cons_append, List.nil_append, List.append_nil]; done)) (by first | omega | (simp only [List.length_append, List.length_cons, List.length_nil, List.length_take, List.length_drop, List.length_replicate, Int.natCast_add] at *; omega))) ?_
  refine hcons (kZer (isX rfl) (by omega) (by omega) (denX rfl)) ?_
  refine hcons (kCat (isX rfl) (isX rfl) (denX rfl) (by first | rfl | (simp only [List.append_assoc, List.cons_append, List.nil_append, List.append_nil]; done)) (by first | omega | (simp only [List.length_append, List.length_cons, List.length_nil, List.length_take, List.length_drop, List.length_replicate, Int.natCast_add] at *; omega))) ?_
  refine hcons (kEqS (isX rfl) (isX rfl) (by first | exact decide_eq_true rfl | exact decide_eq_true ‹_› | exact decide_eq_false ‹_›)) ?_
  refine hcons (kEqS (isX rfl) (isX rfl) (decide_eq_true rfl)) ?_
  refine hcons (kMax (isX rfl) (isZ (m := 0) rfl) (denX rfl) rfl) ?_
  refine hcons (kNeg (isX rfl) (denX rfl) (by omega) (fI64 (by omega) (by omega))) ?_
  refine hcons (kAndG 3 8 rfl (by decide) (isX rfl) (isZ (m := 7) rfl) (denX rfl) (fI64 (by omega) (by omega)) rfl rfl (fI64 (by omega) (by omega))) ?_
  refine hcons (kMax (isZ (m := 0) rfl) (isX rfl) (denX rfl) rfl) ?_
  refine hcons (kRem (isX rfl) (isZ (m := 8) rfl) (denX rfl) (by omega) (by omega) rfl) ?_
  refine hcons (kSub (isZ (m := 8) rfl) (isX rfl) (denX rfl) (by omega) (fI64 (by omega) (by omega))) ?_
  refine hcons (kRem (isX rfl) (isZ (m := 8) rfl) (denX rfl) (by omega) (by omega) rfl) ?_
  refine hcons (kEqI (isX rfl) (isX rfl) (decide_eq_true (by omega))) ?_
  exact hnil
theorem path2 (rt : Int) (ri : Int) (c : List UInt8) (rp : Int) (s : List UInt8) (n : Int) (b0 : -9223372036854775808 ≤ rt) (b1 : rt ≤ 9223372036854775807) (b2 : -9223372036854775808 ≤ ri) (b3 : ri ≤ 9223372036854775807) (b4 : c.length ≤ 9223372036854775807) (b5 : -9223372036854775808 ≤ rp) (b6 : rp ≤ 9223372036854775807) (b7 : s.length ≤ 9223372036854775807) (b8 : -9223372036854775808 ≤ n) (b9 : n ≤ 9223372036854775807) (h0 : ¬ (3000 < (s.length : Int))) (h1 : ¬ (70000 < (c.length : Int))) (h2 : ¬ ((s.length : Int) = 0)) (h3 : bt s 0 = 1) (h4 : (s.length : Int) < 8) (h6 : 1 ≤ rt) (h7 : rt ≤ 255) (h8 : 0 ≤ ri) (h9 : ri ≤ 65535) (h10 : (c.length : Int) ≤ 65535) (h11 : 0 ≤ rp) (h12 : rp ≤ 255) (w : World) (hl : laidE w) : Calls Tryd.prog 5 #[.agg #[.int .i64 rt, .int .i64 ri, St' c, .int .i64 rp], St' s, .int .i64 n] w fun e w' => e = .returned (.bool true) ∧ Go.AX.Below w.heap.size w w' := by
  obtain ⟨fi, hfi, hb⟩ : ∃ fi, tabk.fn.get 5 = some fi ∧ fi.body.isSome = true := ⟨_, rfl, by kernel_rfl⟩
  exact runP (tb := tab2) ((tabkOk (nuL (nu2 rt ri c rp s n)) (one2 rt ri c rp s n)).hyps (hyOk2 rt ri c rp s n b0 b1 b2 b3 b4 b5 b6 b7 b8 b9 h0 h1 h2 h3 h4 h6 h7 h8 h9 h10 h11 h12)) rfl hfi hb (fun e => run2 e ) (args := [.agg #[.int .i64 rt, .int .i64 ri, St' c, .int .i64 rp], St' s, .int .i64 n]) (by simp only [RelL, Rel]; exact ⟨_, _, rfl, ⟨_, rfl, ⟨_, _, rfl, rfl, ⟨_, _, rfl, rfl, ⟨_, _, rfl, rfl, ⟨_, _, rfl, rfl, rfl⟩⟩⟩⟩⟩, ⟨_, _, rfl, rfl, ⟨_, _, rfl, rfl, rfl⟩⟩⟩) w hl
def hy3 : List (HK × AV) := [(.len (.x 4), .x 6),
  (.bin .gtr (.x 6) (.i .i64 (.ofNat 3000)), .b false),
  (.len (.x 2), .x 7),
  (.bin .gtr (.x 7) (.i .i64 (.ofNat 70000)), .b false),
  (.bin .neq (.x 4) (.s 0 0), .b true),
  (.idx (.x 4) (.i .i64 (.ofNat 0)), .x 8),
  (.bin .neq (.x 8) (.i .u8 (.ofNat 1)), .b false),
  (.bin .lss (.x 6) (.i .i64 (.ofNat 8)), .b false),
  (.idx (.x 4) (.i .i64 (.ofNat 4)), .x 9),
  (.conv 3 (.x 9), .x 10),
  (.bin .shl (.x 10) (.i .u64 (.ofNat 8)), .x 11),
  (.bin .add (.i .i64 (.ofNat 8)) (.x 11), .x 12),
  (.idx (.x 4) (.i .i64 (.ofNat 5)), .x 13),
  (.conv 3 (.x 13), .x 14),
  (.bin .add (.x 12) (.x 14), .x 15),
  (.idx (.x 4) (.i .i64 (.ofNat 6)), .x 16),
  (.conv 3 (.x 16), .x 17),
  (.bin .add (.x 15) (.x 17), .x 18),
  (.bin .lss (.x 6) (.x 18), .b false),
  (.idx (.x 4) (.i .i64 (.ofNat 1)), .x 19),
  (.bin .eql (.x 19) (.i .u8 (.ofNat 0)), .b false),
  (.conv 3 (.x 19), .x 20),
  (.idx (.x 4) (.i .i64 (.ofNat 2)), .x 21),
  (.conv 3 (.x 21), .x 22),
  (.bin .shl (.x 22) (.i .u64 (.ofNat 8)), .x 23),
  (.idx (.x 4) (.i .i64 (.ofNat 3)), .x 24),
  (.conv 3 (.x 24), .x 25),
  (.bin .or (.x 23) (.x 25), .x 26),
  (.bin .sub (.x 18) (.x 17), .x 27),
  (.sub (.x 4) (some (.i .i64 (.ofNat 8))) (some (.x 27)), .x 28),
  (.sub (.x 4) (some (.x 18)) none, .x 29),
  (.bin .gtr (.x 6) (.i .i64 (.ofNat 0)), .b true),
  (.bin .mul (.x 10) (.i .i64 (.ofNat 256)), .x 30),
  (.bin .add (.x 30) (.x 14), .x 31),
  (.bin .add (.i .i64 (.ofNat 8)) (.x 31), .x 32),
  (.bin .add (.x 32) (.x 17), .x 33),
  (.bin .lss (.x 6) (.x 33), .b false),
  (.bin .mul (.x 22) (.i .i64 (.ofNat 256)), .x 34),
  (.bin .add (.x 34) (.x 25), .x 35),
  (.sub (.x 4) (some (.i .i64 (.ofNat 8))) (some (.x 32)), .x 36),
  (.sub (.x 4) (some (.x 33)) none, .x 37),
  (.bin .geq (.x 0) (.i .i64 (.ofNat 1)), .b true),
  (.bin .leq (.x 0) (.i .i64 (.ofNat 255)), .b true),
  (.bin .geq (.x 1) (.i .i64 (.ofNat 0)), .b true),
  (.bin .leq (.x 1) (.i .i64 (.ofNat 65535)), .b true),
  (.bin .leq (.x 7) (.i .i64 (.ofNat 65535)), .b true),
  (.bin .geq (.x 3) (.i .i64 (.ofNat 0)), .b true),
  (.bin .leq (.x 3) (.i .i64 (.ofNat 255)), .b true),
  (.conv 5 (.x 0), .x 38),
  (.bin .shr (.x 1) (.i .u64 (.ofNat 8)), .x 39),
  (.conv 5 (.x 39), .x 40),
  (.conv 5 (.x 1), .x 41),
  (.bin .shr (.x 7) (.i .u64 (.ofNat 8)), .x 42),
  (.conv 5 (.x 42), .x 43),
  (.conv 5 (.x 7), .x 44),
  (.conv 5 (.x 3), .x 45),
  (.bytes [.i .u8 (.ofNat 1), .x 38, .x 40, .x 41, .x 43, .x 44, .x 45, .i .u8 (.ofNat 0)], .x 46),
  (.bin .add (.x 46) (.x 2), .x 47),
  (.call 81 [.s 1 0, .x 3], .x 48),
  (.bin .add (.x 47) (.x 48), .x 49),
  (.bytes [.i .u8 (.ofNat 1), .x 38], .x 50),
  (.bin .quo (.x 1) (.i .i64 (.ofNat 256)), .x 51),
  (.conv 5 (.x 51), .x 52),
  (.bin .rem (.x 1) (.i .i64 (.ofNat 256)), .x 53),
  (.conv 5 (.x 53), .x 54),
  (.bytes [.x 52, .x 54], .x 55),
  (.bin .add (.x 50) (.x 55), .x 56),
  (.bin .quo (.x 7) (.i .i64 (.ofNat 256)), .x 57),
  (.conv 5 (.x 57), .x 58),
  (.bin .rem (.x 7) (.i .i64 (.ofNat 256)), .x 59),
  (.conv 5 (.x 59), .x 60),
  (.bytes [.x 58, .x 60], .x 61),
  (.bin .add (.x 56) (.x 61), .x 62),
  (.bytes [.x 45, .i .u8 (.ofNat 0)], .x 63),
  (.bin .add (.x 62) (.x 63), .x 64),
  (.bin .add (.x 64) (.x 2), .x 65),
  (.zer (.x 3), .x 66),
  (.bin .add (.x 65) (.x 66), .x 67),
  (.bin .eql (.x 49) (.x 67), .b true),
  (.eq 3 (.x 20) (.x 20), .b true),
  (.eq 3 (.x 26) (.x 35), .b true),
  (.eq 9 (.x 28) (.x 36), .b true),
  (.eq 3 (.x 17) (.x 17), .b true),
  (.bin .eql (.x 29) (.x 37), .b true),
  (.mm true (.x 5) (.i .i64 (.ofNat 0)), .x 68),
  (.un .neg (.x 68), .x 69),
  (.bin .and (.x 69) (.i .i64 (.ofNat 7)), .x 70),
  (.mm true (.i .i64 (.ofNat 0)) (.x 5), .x 71),
  (.bin .rem (.x 71) (.i .i64 (.ofNat 8)), .x 72),
  (.bin .sub (.i .i64 (.ofNat 8)) (.x 72), .x 73),
  (.bin .rem (.x 73) (.i .i64 (.ofNat 8)), .x 74),
  (.bin .eql (.x 70) (.x 74), .b true)]
noncomputable def tab3 : Tab := { tabk with hyp := hy3 }
theorem run3 (e : Nat) : okB (call tab3 9000 5 [.ag [.x 0, .x 1, .x 2, .x 3], .x 4, .x 5] ⟨H0 e , 7, 0, 0⟩) = true := by kernel_rfl
def nu3 (rt : Int) (ri : Int) (c : List UInt8) (rp : Int) (s : List UInt8) (n : Int) : List Value := [.int .i64 (rt),
  .int .i64 (ri),
  St' c,
  .int .i64 (rp),
  St' s,
  .int .i64 (n),
  .int .i64 ((s.length : Int)),
  .int .i64 ((c.length : Int)),
  .int .u8 (bt s 0),
  .int .u8 (bt s 4),
  .int .i64 ((bt s 4)),
  .int .i64 ((bt s 4) * 256),
  .int .i64 ((bt s 4) * 256 + 8),
  .int .u8 (bt s 5),
  .int .i64 ((bt s 5)),
  .int .i64 ((bt s 4) * 256 + (bt s 5) + 8),
  .int .u8 (bt s 6),
  .int .i64 ((bt s 6)),
  .int .i64 ((bt s 4) * 256 + (bt s 5) + (bt s 6) + 8),
  .int .u8 (bt s 1),
  .int .i64 ((bt s 1)),
  .int .u8 (bt s 2),
  .int .i64 ((bt s 2)),
  .int .i64 ((bt s 2) * 256),
  .int .u8 (bt s 3),
  .int .i64 ((bt s 3)),
  .int .i64 ((bt s 2) * 256 + (bt s 3)),
  .int .i64 ((bt s 4) * 256 + (bt s 5) + 8),
  St' ((List.take ((bt s 4) * 256 + (bt s 5) + 8 - (8)).toNat (List.drop (Int.toNat 8) s))),
  St' ((List.take ((s.length : Int) - ((bt s 4) * 256 + (bt s 5) + (bt s 6) + 8)).toNat (List.drop ((bt s 4) * 256 + (bt s 5) + (bt s 6) + 8).toNat s))),
  .int .i64 ((bt s 4) * 256),
  .int .i64 ((bt s 4) * 256 + (bt s 5)),
  .int .i64 ((bt s 4) * 256 + (bt s 5) + 8),
  .int .i64 ((bt s 4) * 256 + (bt s 5) + (bt s 6) + 8),
  .int .i64 ((bt s 2) * 256),
  .int .i64 ((bt s 2) * 256 + (bt s 3)),
  St' ((List.take ((bt s 4) * 256 + (bt s 5) + 8 - (8)).toNat (List.drop (Int.toNat 8) s))),
  St' ((List.take ((s.length : Int) - ((bt s 4) * 256 + (bt s 5) + (bt s 6) + 8)).toNat (List.drop ((bt s 4) * 256 + (bt s 5) + (bt s 6) + 8).toNat s))),
  .int .u8 (rt % 256),
  .int .i64 (ri / 256),
  .int .u8 ((ri / 256) % 256),
  .int .u8 (ri % 256),
  .int .i64 (((c.length : Int)) / 256),
  .int .u8 ((((c.length : Int)) / 256) % 256),
  .int .u8 (((c.length : Int)) % 256),
  .int .u8 (rp % 256),
  St' ([u8 1, u8 (rt % 256), u8 ((ri / 256) % 256), u8 (ri % 256), u8 ((((c.length : Int)) / 256) % 256), u8 (((c.length : Int)) % 256), u8 (rp % 256), u8 0]),
  St' (([u8 1, u8 (rt % 256), u8 ((ri / 256) % 256), u8 (ri % 256), u8 ((((c.length : Int)) / 256) % 256), u8 (((c.length : Int)) % 256), u8 (rp % 256), u8 0] ++ c)),
  St' ((List.replicate (rp).toNat 0)),
  St' (([u8 1, u8 (rt % 256), u8 ((ri / 256) % 256), u8 (ri % 256), u8 ((((c.length : Int)) / 256) % 256), u8 (((c.length : Int)) % 256), u8 (rp % 256), u8 0] ++ (c ++ (List.replicate (rp).toNat 0)))),
  St' ([u8 1, u8 (rt % 256)]),
  .int .i64 (ri / 256),
  .int .u8 ((ri / 256) % 256),
  .int .i64 (ri % 256),
  .int .u8 ((ri % 256)),
  St' ([u8 ((ri / 256) % 256), u8 ((ri % 256))]),
  St' ([u8 1, u8 (rt % 256), u8 ((ri / 256) % 256), u8 ((ri % 256))]),
  .int .i64 (((c.length : Int)) / 256),
  .int .u8 ((((c.length : Int)) / 256) % 256),
  .int .i64 (((c.length : Int)) % 256),
  .int .u8 ((((c.length : Int)) % 256)),
  St' ([u8 ((((c.length : Int)) / 256) % 256), u8 ((((c.length : Int)) % 256))]),
  St' ([u8 1, u8 (rt % 256), u8 ((ri / 256) % 256), u8 ((ri % 256)), u8 ((((c.length : Int)) / 256) % 256), u8 ((((c.length : Int)) % 256))]),
  St' ([u8 (rp % 256), u8 0]),
  St' ([u8 1, u8 (rt % 256), u8 ((ri / 256) % 256), u8 ((ri % 256)), u8 ((((c.length : Int)) / 256) % 256), u8 ((((c.length : Int)) % 256)), u8 (rp % 256), u8 0]),
  St' (([u8 1, u8 (rt % 256), u8 ((ri / 256) % 256), u8 ((ri % 256)), u8 ((((c.length : Int)) / 256) % 256), u8 ((((c.length : Int)) % 256)), u8 (rp % 256), u8 0] ++ c)),
  St' ((List.replicate (rp).toNat 0)),
  St' (([u8 1, u8 (rt % 256), u8 ((ri / 256) % 256), u8 ((ri % 256)), u8 ((((c.length : Int)) / 256) % 256), u8 ((((c.length : Int)) % 256)), u8 (rp % 256), u8 0] ++ (c ++ (List.replicate (rp).toNat 0)))),
  .int .i64 (max n 0),
  .int .i64 (-((max n 0))),
  .int .i64 ((-((max n 0))) % 8),
  .int .i64 (max 0 n),
  .int .i64 ((max 0 n) % 8),
  .int .i64 (8 - ((max 0 n) % 8)),
  .int .i64 ((8 - ((max 0 n) % 8)) % 8)]
theorem one3 (rt : Int) (ri : Int) (c : List UInt8) (rp : Int) (s : List UInt8) (n : Int) : ∀ j, (nuL (nu3 rt ri c rp s n) j).oneCell' = true := nuL_one (l := nu3 rt ri c rp s n) rfl
set_option maxHeartbeats 2000000 in
theorem hyOk3 (rt : Int) (ri : Int) (c : List UInt8) (rp : Int) (s : List UInt8) (n : Int) (b0 : -9223372036854775808 ≤ rt) (b1 : rt ≤ 9223372036854775807) (b2 : -9223372036854775808 ≤ ri) (b3 : ri ≤ 9223372036854775807) (b4 : c.length ≤ 9223372036854775807) (b5 : -9223372036854775808 ≤ rp) (b6 : rp ≤ 9223372036854775807) (b7 : s.length ≤ 9223372036854775807) (b8 : -9223372036854775808 ≤ n) (b9 : n ≤ 9223372036854775807) (h0 : ¬ (3000 < (s.length : Int))) (h1 : ¬ (70000 < (c.length : Int))) (h2 : ¬ ((s.length : Int) = 0)) (h3 : bt s 0 = 1) (h4 : ¬ ((s.length : Int) < 8)) (h5 : ¬ ((s.length : Int) < (bt s 4) * 256 + (bt s 5) + (bt s 6) + 8)) (h6 : ¬ (bt s 1 = 0)) (h9 : 1 ≤ rt) (h10 : rt ≤ 255) (h11 : 0 ≤ ri) (h12 : ri ≤ 65535) (h13 : (c.length : Int) ≤ 65535) (h14 : 0 ≤ rp) (h15 : rp ≤ 255) : ∀ k r, (k, r) ∈ hy3 → HOk (cx (nuL (nu3 rt ri c rp s n)) (one3 rt ri c rp s n) 1 laidE laidE_stab) k r := by
  have := bt_lo s 0; have := bt_hi s 0
  have := bt_lo s 4; have := bt_hi s 4
  have := bt_lo s 5; have := bt_hi s 5
  have := bt_lo s 6; have := bt_hi s 6
  have := bt_lo s 1; have := bt_hi s 1
  have := bt_lo s 2; have := bt_hi s 2
  have := bt_lo s 3; have := bt_hi s 3
  unfold hy3
  refine hcons (kLenE (isX rfl) (denX rfl) (by first | omega | (simp only [List.length_append, List.length_cons, List.length_nil, List.length_take, List.length_drop, List.length_replicate, Int.natCast_add] at *; omega))) ?_
  refine hcons (kGt (isX rfl) (isZ (m := 3000) rfl) (decide_eq_false (by omega))) ?_
  refine hcons (kLenE (isX rfl) (denX rfl) (by first | omega | (simp only [List.length_append, List.length_cons, List.length_nil, List.length_take, List.length_drop, List.length_replicate, Int.natCast_add] at *; omega))) ?_
  refine hcons (kGt (isX rfl) (isZ (m := 70000) rfl) (decide_eq_false (by omega))) ?_
  refine hcons (kNeS (isX rfl) (isSx (l := ([] : List UInt8)) 0 0 rfl) (bnT (by first | exact nilT (by first | omega | (simp only [List.length_append, List.length_cons, List.length_nil, List.length_take, List.length_drop, List.length_replicate, Int.natCast_add] at *; omega)) | exact nilF (by first | omega | (simp only [List.length_append, List.length_cons, List.length_nil, List.length_take, List.length_drop, List.length_replicate, Int.natCast_add] at *; omega)) | exact nilT' (by first | omega | (simp only [List.length_append, List.length_cons, List.length_nil, List.length_take, List.length_drop, List.length_replicate, Int.natCast_add] at *; omega)) | exact nilF' (by first | omega | (simp only [List.length_append, List.length_cons, List.length_nil, List.length_take, List.length_drop, List.length_replicate, Int.natCast_add] at *; omega))))) ?_
  refine hcons (kIdxE (i := 0) (isX rfl) (isZ (m := 0) rfl) (denX rfl) rfl (by first | omega | (simp only [List.length_append, List.length_cons, List.length_nil, List.length_take, List.length_drop, List.length_replicate, Int.natCast_add] at *; omega)) rfl) ?_
  refine hcons (kNeI (isX rfl) (isZ (m := 1) rfl) (neF (by omega))) ?_
  refine hcons (kLt (isX rfl) (isZ (m := 8) rfl) (decide_eq_false (by omega))) ?_
  refine hcons (kIdxE (i := 4) (isX rfl) (isZ (m := 4) rfl) (denX rfl) rfl (by first | omega | (simp only [List.length_append, List.length_cons, List.length_nil, List.length_take, List.length_drop, List.length_replicate, Int.natCast_add] at *; omega)) rfl) ?_
  refine hcons (kConvF (isX rfl) tu3 (denX rfl) (fI64 (by omega) (by omega))) ?_
  refine hcons (kShlM 8 256 rfl (isX rfl) (isZ (m := 8) rfl) (denX rfl) rfl (by decide) (by omega) (fI64 (by omega) (by omega))) ?_
  refine hcons (kAdd (isZ (m := 8) rfl) (isX rfl) (denX rfl) (by omega) (fI64 (by omega) (by omega))) ?_
  refine hcons (kIdxE (i := 5) (isX rfl) (isZ (m := 5) rfl) (denX rfl) rfl (by first | omega | (simp only [List.length_append, List.length_cons, List.length_nil, List.length_take, List.length_drop, List.length_replicate, Int.natCast_add] at *; omega)) rfl) ?_
  refine hcons (kConvF (isX rfl) tu3 (denX rfl) (fI64 (by omega) (by omega))) ?_
  refine hcons (kAdd (isX rfl) (isX rfl) (denX rfl) (by omega) (fI64 (by omega) (by omega))) ?_
  refine hcons (kIdxE (i := 6) (isX rfl) (isZ (m := 6) rfl) (denX rfl) rfl (by first | omega | (simp only [List.length_append, List.length_cons, List.length_nil, List.length_take, List.length_drop, List.length_replicate, Int.natCast_add] at *; omega)) rfl) ?_
  refine hcons (kConvF (isX rfl) tu3 (denX rfl) (fI64 (by omega) (by omega))) ?_
  refine hcons (kAdd (isX rfl) (isX rfl) (denX rfl) (by omega) (fI64 (by omega) (by omega))) ?_
  refine hcons (kLt (isX rfl) (isX rfl) (decide_eq_false (by omega))) ?_
  refine hcons (kIdxE (i := 1) (isX rfl) (isZ (m := 1) rfl) (denX rfl) rfl (by first | omega | (simp only [List.length_append, List.length_cons, List.length_nil, List.length_take, List.length_drop, List.length_replicate, Int.natCast_add] at *; omega)) rfl) ?_
  refine hcons (kEqI (isX rfl) (isZ (m := 0) rfl) (decide_eq_false (by omega))) ?_
  refine hcons (kConvF (isX rfl) tu3 (denX rfl) (fI64 (by omega) (by omega))) ?_
  refine hcons (kIdxE (i := 2) (isX rfl) (isZ (m := 2) rfl) (denX rfl) rfl (by first | omega | (simp only [List.length_append, List.length_cons, List.length_nil, List.length_take, List.length_drop, List.length_replicate, Int.natCast_add] at *; omega)) rfl) ?_
  refine hcons (kConvF (isX rfl) tu3 (denX rfl) (fI64 (by omega) (by omega))) ?_
  refine hcons (kShlM 8 256 rfl (isX rfl) (isZ (m := 8) rfl) (denX rfl) rfl (by decide) (by omega) (fI64 (by omega) (by omega))) ?_
  refine hcons (kIdxE (i := 3) (isX rfl) (isZ (m := 3) rfl) (denX rfl) rfl (by first | omega | (simp only [List.length_append, List.length_cons, List.length_nil, List.length_take, List.length_drop, List.length_replicate, Int.natCast_add] at *; omega)) rfl) ?_
  refine hcons (kConvF (isX rfl) tu3 (denX rfl) (fI64 (by omega) (by omega))) ?_
  refine hcons (kOrM 8 256 rfl (isX rfl) (isX rfl) (denX rfl) (by omega) (by omega) (fI64 (by omega) (by omega)) (fI64 (by omega) (by omega)) (by omega) (by omega) (by omega) (fI64 (by omega) (by omega))) ?_
  refine hcons (kSub (isX rfl) (isX rfl) (denX rfl) (by omega) (fI64 (by omega) (by omega))) ?_
  refine hcons (kMid (P := 8) (Q := (bt s 4) * 256 + (bt s 5) + 8) (isX rfl) (.inr ⟨_, _, rfl, (isZ (m := 8) rfl)⟩) (.inr ⟨_, _, rfl, (isX rfl)⟩) (by first | omega | (simp only [List.length_append, List.length_cons, List.length_nil, List.length_take, List.length_drop, List.length_replicate, Int.natCast_add] at *; omega)) (by first | omega | (simp only [List.length_append, List.length_cons, List.length_nil, List.length_take, List.length_drop, List.length_replicate, Int.natCast_add] at *; omega)) (by first | omega | (simp only [List.length_append, List.length_cons, List.length_nil, List.length_take, List.length_drop, List.length_replicate, Int.natCast_add] at *; omega)) (denX rfl)) ?_
  refine hcons (kMid (P := (bt s 4) * 256 + (bt s 5) + (bt s 6) + 8) (Q := (s.length : Int)) (isX rfl) (.inr ⟨_, _, rfl, (isX rfl)⟩) (.inl ⟨rfl, by first | omega | (simp only [List.length_append, List.length_cons, List.length_nil, List.length_take, List.length_drop, List.length_replicate, Int.natCast_add] at *; omega)⟩) (by first | omega | (simp only [List.length_append, List.length_cons, List.length_nil, List.length_take, List.length_drop, List.length_replicate, Int.natCast_add] at *; omega)) (by first | omega | (simp only [List.length_append, List.length_cons, List.length_nil, List.length_take, List.length_drop, List.length_replicate, Int.natCast_add] at *; omega)) (by first | omega | (simp only [List.length_append, List.length_cons, List.length_nil, List.length_take, List.length_drop, List.length_replicate, Int.natCast_add] at *; omega)) (denX rfl)) ?_
  refine hcons (kGt (isX rfl) (isZ (m := 0) rfl) (decide_eq_true (by omega))) ?_
  refine hcons (kMul (isX rfl) (isZ (m := 256) rfl) (denX rfl) (by omega) (fI64 (by omega) (by omega))) ?_
  refine hcons (kAdd (isX rfl) (isX rfl) (denX rfl) (by omega) (fI64 (by omega) (by omega))) ?_
  refine hcons (kAdd (isZ (m := 8) rfl) (isX rfl) (denX rfl) (by omega) (fI64 (by omega) (by omega))) ?_
  refine hcons (kAdd (isX rfl) (isX rfl) (denX rfl) (by omega) (fI64 (by omega) (by omega))) ?_
  refine hcons (kLt (isX rfl) (isX rfl) (decide_eq_false (by omega))) ?_
  refine hcons (kMul (isX rfl) (isZ (m := 256) rfl) (denX rfl) (by omega) (fI64 (by omega) (by omega))) ?_
  refine hcons (kAdd (isX rfl) (isX rfl) (denX rfl) (by omega) (fI64 (by omega) (by omega))) ?_
  refine hcons (kMid (P := 8) (Q := (bt s 4) * 256 + (bt s 5) + 8) (isX rfl) (.inr ⟨_, _, rfl, (isZ (m := 8) rfl)⟩) (.inr ⟨_, _, rfl, (isX rfl)⟩) (by first | omega | (simp only [List.length_append, List.length_cons, List.length_nil, List.length_take, List.length_drop, List.length_replicate, Int.natCast_add] at *; omega)) (by first | omega | (simp only [List.length_append, List.length_cons, List.length_nil, List.length_take, List.length_drop, List.length_replicate, Int.natCast_add] at *; omega)) (by first | omega | (simp only [List.length_append, List.length_cons, List.length_nil, List.length_take, List.length_drop, List.length_replicate, Int.natCast_add] at *; omega)) (denX rfl)) ?_
  refine hcons (kMid (P := (bt s 4) * 256 + (bt s 5) + (bt s 6) + 8) (Q := (s.length : Int)) (isX rfl) (.inr ⟨_, _, rfl, (isX rfl)⟩) (.inl ⟨rfl, by first | omega | (simp only [List.length_append, List.length_cons, List.length_nil, List.length_take, List.length_drop, List.length_replicate, Int.natCast_add] at *; omega)⟩) (by first | omega | (simp only [List.length_append, List.length_cons, List.length_nil, List.length_take, List.length_drop, List.length_replicate, Int.natCast_add] at *; omega)) (by first | omega | (simp only [List.length_append, List.length_cons, List.length_nil, List.length_take, List.length_drop, List.length_replicate, Int.natCast_add] at *; omega)) (by first | omega | (simp only [List.length_append, List.length_cons, List.length_nil, List.length_take, List.length_drop, List.length_replicate, Int.natCast_add] at *; omega)) (denX rfl)) ?_
  refine hcons (kGe (isX rfl) (isZ (m := 1) rfl) (decide_eq_true (by omega))) ?_
  refine hcons (kLe (isX rfl) (isZ (m := 255) rfl) (decide_eq_true (by omega))) ?_
  refine hcons (kGe (isX rfl) (isZ (m := 0) rfl) (decide_eq_true (by omega))) ?_
  refine hcons (kLe (isX rfl) (isZ (m := 65535) rfl) (decide_eq_true (by omega))) ?_
  refine hcons (kLe (isX rfl) (isZ (m := 65535) rfl) (decide_eq_true (by omega))) ?_
  refine hcons (kGe (isX rfl) (isZ (m := 0) rfl) (decide_eq_true (by omega))) ?_
  refine hcons (kLe (isX rfl) (isZ (m := 255) rfl) (decide_eq_true (by omega))) ?_
  refine hcons (kConv8 (isX rfl) tu5 (denX rfl) rfl) ?_
  refine hcons (kShrM 8 256 rfl (isX rfl) (isZ (m := 8) rfl) (denX rfl) rfl (by decide) (by omega) rfl) ?_
  refine hcons (kConv8 (isX rfl) tu5 (denX rfl) rfl) ?_
  refine hcons (kConv8 (isX rfl) tu5 (denX rfl) rfl) ?_
  refine hcons (kShrM 8 256 rfl (isX rfl) (isZ (m := 8) rfl) (denX rfl) rfl (by decide) (by omega) rfl) ?_
  refine hcons (kConv8 (isX rfl) tu5 (denX rfl) rfl) ?_
  refine hcons (kConv8 (isX rfl) tu5 (denX rfl) rfl) ?_
  refine hcons (kConv8 (isX rfl) tu5 (denX rfl) rfl) ?_
  refine hcons (kBytesB (bs := [u8 1, u8 (rt % 256), u8 ((ri / 256) % 256), u8 (ri % 256), u8 ((((c.length : Int)) / 256) % 256), u8 (((c.length : Int)) % 256), u8 (rp % 256), u8 0]) (.cons (isB8 (isZ (m := 1) rfl) (by omega) (by omega)) (.cons (isB8 (isX rfl) (by omega) (by omega)) (.cons (isB8 (isX rfl) (by omega) (by omega)) (.cons (isB8 (isX rfl) (by omega) (by omega)) (.cons (isB8 (isX rfl) (by omega) (by omega)) (.cons (isB8 (isX rfl) (by omega) (by omega)) (.cons (isB8 (isX rfl) (by omega) (by omega)) (.cons (isB8 (isZ (m := 0) rfl) (by omega) (by omega)) .nil)))))))) (denX rfl)) ?_
  refine hcons (kCat (isX rfl) (isX rfl) (denX rfl) (by first | rfl | (simp only [List.append_assoc, List.cons_append, List.nil_append, List.append_nil]; done)) (by first | omega | (simp only [List.length_append, List.length_cons, List.length_nil, List.length_take, List.length_drop, List.length_replicate, Int.natCast_add] at *; omega))) ?_
  refine hcons (hokRep rfl rfl (by omega) (by omega)) ?_
  refine hcons (kCat (isX rfl) (isX rfl) (denX rfl) (by first | rfl | (simp only [List.append_assoc, List.cons_append, List.nil_append, List.append_nil]; done)) (by first | omega | (simp only [List.length_append, List.length_cons, List.length_nil, List.length_take, List.length_drop, List.length_replicate, Int.natCast_add] at *; omega))) ?_
  refine hcons (kBytesB (bs := [u8 1, u8 (rt % 256)]) (.cons (isB8 (isZ (m := 1) rfl) (by omega) (by omega)) (.cons (isB8 (isX rfl) (by omega) (by omega)) .nil)) (denX rfl)) ?_
  refine hcons (kQuo (isX rfl) (isZ (m := 256) rfl) (denX rfl) (by omega) (by omega) rfl (fI64 (by omega) (by omega))) ?_
  refine hcons (kConv8 (isX rfl) tu5 (denX rfl) rfl) ?_
  refine hcons (kRem (isX rfl) (isZ (m := 256) rfl) (denX rfl) (by omega) (by omega) rfl) ?_
  refine hcons (kConvF (isX rfl) tu5 (denX rfl) (fU8 (by omega) (by omega))) ?_
  refine hcons (kBytesB (bs := [u8 ((ri / 256) % 256), u8 ((ri % 256))]) (.cons (isB8 (isX rfl) (by omega) (by omega)) (.cons (isB8 (isX rfl) (by omega) (by omega)) .nil)) (denX rfl)) ?_
  refine hcons (kCat (isX rfl) (isX rfl) (denX rfl) (by first | rfl | (simp only [List.append_assoc, List.cons_append, List.nil_append, List.append_nil]; done)) (by first | omega | (simp only [List.length_append, List.length_cons, List.length_nil, List.length_take, List.length_drop, List.length_replicate, Int.natCast_add] at *; omega))) ?_
  refine hcons (kQuo (isX rfl) (isZ (m := 256) rfl) (denX rfl) (by omega) (by omega) rfl (fI64 (by omega) (by omega))) ?_
  refine hcons (kConv8 (isX rfl) tu5 (denX rfl) rfl) ?_
  refine hcons (kRem (isX rfl) (isZ (m := 256) rfl) (denX rfl) (by omega) (by omega) rfl) ?_
  refine hcons (kConvF (isX rfl) tu5 (denX rfl) (fU8 (by omega) (by omega))) ?_
  refine hcons (kBytesB (bs := [u8 ((((c.length : Int)) / 256) % 256), u8 ((((c.length : Int)) % 256))]) (.cons (isB8 (isX rfl) (by omega) (by omega)) (.cons (isB8 (isX rfl) (by omega) (by omega)) .nil)) (denX rfl)) ?_
  refine hcons (kCat (isX rfl) (isX rfl) (denX rfl) (by first | rfl | (simp only [List.append_assoc, List.cons_append, List.nil_append, List.append_nil]; done)) (by first | omega | (simp only [List.length_append, List.length_cons, List.length_nil, List.length_take, List.length_drop, List.length_replicate, Int.natCast_add] at *; omega))) ?_
  refine hcons (kBytesB (bs := [u8 (rp % 256), u8 0]) (.cons (isB8 (isX rfl) (by omega) (by omega)) (.cons (isB8 (isZ (m := 0) rfl) (by omega) (by omega)) .nil)) (denX rfl)) ?_
  refine hcons (kCat (isX rfl) (isX rfl) (denX rfl) (by first | rfl | (simp only [List.append_assoc, List.cons_append, List.nil_append, List.append_nil]; done)) (by first | omega | (simp only [List.length_append, List.length_cons, List.length_nil, List.length_take, List.length_drop, List.length_replicate, Int.natCast_add] at *; omega))) ?_
  refine hcons (kCat (isX rfl) (isX rfl) (denX rfl) (by first | rfl | (simp only [List.append_assoc, List.cons_append, List.nil_append, List.append_nil]; done)) (by first | omega | (simp only [List.length_append, List.length_cons, List.length_nil, List.length_take, List.length_drop, List.length_replicate, Int.natCast_add] at *; omega))) ?_
  refine hcons (kZer (isX rfl) (by omega) (by omega) (denX rfl)) ?_
  refine hcons (kCat (isX rfl) (isX rfl) (denX rfl) (by first | rfl | (simp only [List.append_assoc, List.cons_append, List.nil_append, List.append_nil]; done)) (by first | omega | (simp only [List.length_append, List.length_cons, List.length_nil, List.length_take, List.length_drop, List.length_replicate, Int.natCast_add] at *; omega))) ?_
  refine hcons (kEqS (isX rfl) (isX rfl) (by first | exact decide_eq_true rfl | exact decide_eq_true ‹_› | exact decide_eq_false ‹_›)) ?_
  refine hcons (kEqT (isX rfl) (isX rfl) tu3 (decide_eq_true (by omega))) ?_
  refine hcons (kEqT (isX rfl) (isX rfl) tu3 (decide_eq_true (by omega))) ?_
  refine hcons (kEqTS (isX rfl) (isX rfl) tu9 (decide_eq_true rfl)) ?_
  refine hcons (kEqT (isX rfl) (isX rfl) tu3 (decide_eq_true (by omega))) ?_
  refine hcons (kEqS (isX rfl) (isX rfl) (decide_eq_true rfl)) ?_
  refine hcons (kMax (isX rfl) (isZ (m := 0) rfl) (denX rfl) rfl) ?_
  refine hcons (kNeg (isX rfl) (denX rfl) (by omega) (fI64 (by omega) (by omega))) ?_
  refine hcons (kAndG 3 8 rfl (by decide) (isX rfl) (isZ (m := 7) rfl) (denX rfl) (fI64 (by omega) (by omega)) rfl rfl (fI64 (by omega) (by omega))) ?_
  refine hcons (kMax (isZ (m := 0) rfl) (isX rfl) (denX rfl) rfl) ?_
  refine hcons (kRem (isX rfl) (isZ (m := 8) rfl) (denX rfl) (by omega) (by omega) rfl) ?_
  refine hcons (kSub (isZ (m := 8) rfl) (isX rfl) (denX rfl) (by omega) (fI64 (by omega) (by omega))) ?_
  refine hcons (kRem (isX rfl) (isZ (m := 8) rfl) (denX rfl) (by omega) (by omega) rfl) ?_
  refine hcons (kEqI (isX rfl) (isX rfl) (decide_eq_true (by omega))) ?_
  exact hnil
theorem path3 (rt : Int) (ri : Int) (c : List UInt8) (rp : Int) (s : List UInt8) (n : Int) (b0 : -9223372036854775808 ≤ rt) (b1 : rt ≤ 9223372036854775807) (b2 : -9223372036854775808 ≤ ri) (b3 : ri ≤ 9223372036854775807) (b4 : c.length ≤ 9223372036854775807) (b5 : -9223372036854775808 ≤ rp) (b6 : rp ≤ 9223372036854775807) (b7 : s.length ≤ 9223372036854775807) (b8 : -9223372036854775808 ≤ n) (b9 : n ≤ 9223372036854775807) (h0 : ¬ (3000 < (s.length : Int))) (h1 : ¬ (70000 < (c.length : Int))) (h2 : ¬ ((s.length : Int) = 0)) (h3 : bt s 0 = 1) (h4 : ¬ ((s.length : Int) < 8)) (h5 : ¬ ((s.length : Int) < (bt s 4) * 256 + (bt s 5) + (bt s 6) + 8)) (h6 : ¬ (bt s 1 = 0)) (h9 : 1 ≤ rt) (h10 : rt ≤ 255) (h11 : 0 ≤ ri) (h12 : ri ≤ 65535) (h13 : (c.length : Int) ≤ 65535) (h14 : 0 ≤ rp) (h15 : rp ≤ 255) (w : World) (hl : laidE w) : Calls Tryd.prog 5 #[.agg #[.int .i64 rt, .int .i64 ri, St' c, .int .i64 rp], St' s, .int .i64 n] w fun e w' => e = .returned (.bool true) ∧ Go.AX.Below w.heap.size w w' := by
  obtain ⟨fi, hfi, hb⟩ : ∃ fi, tabk.fn.get 5 = some fi ∧ fi.body.isSome = true := ⟨_, rfl, by kernel_rfl⟩
  exact runP (tb := tab3) ((tabkOk (nuL (nu3 rt ri c rp s n)) (one3 rt ri c rp s n)).hyps (hyOk3 rt ri c rp s n b0 b1 b2 b3 b4 b5 b6 b7 b8 b9 h0 h1 h2 h3 h4 h5 h6 h9 h10 h11 h12 h13 h14 h15)) rfl hfi hb (fun e => run3 e ) (args := [.agg #[.int .i64 rt, .int .i64 ri, St' c, .int .i64 rp], St' s, .int .i64 n]) (by simp only [RelL, Rel]; exact ⟨_, _, rfl, ⟨_, rfl, ⟨_, _, rfl, rfl, ⟨_, _, rfl, rfl, ⟨_, _, rfl, rfl, ⟨_, _, rfl, rfl, rfl⟩⟩⟩⟩⟩, ⟨_, _, rfl, rfl, ⟨_, _, rfl, rfl, rfl⟩⟩⟩) w hl
def hy4 : List (HK × AV) := [(.len (.x 4), .x 6),
  (.bin .gtr (.x 6) (.i .i64 (.ofNat 3000)), .b false),
  (.len (.x 2), .x 7),
  (.bin .gtr (.x 7) (.i .i64 (.ofNat 70000)), .b false),
  (.bin .neq (.x 4) (.s 0 0), .b true),
  (.idx (.x 4) (.i .i64 (.ofNat 0)), .x 8),
  (.bin .neq (.x 8) (.i .u8 (.ofNat 1)), .b false),
  (.bin .lss (.x 6) (.i .i64 (.ofNat 8)), .b false),
  (.idx (.x 4) (.i .i64 (.ofNat 4)), .x 9),
  (.conv 3 (.x 9), .x 10),
  (.bin .shl (.x 10) (.i .u64 (.ofNat 8)), .x 11),
  (.bin .add (.i .i64 (.ofNat 8)) (.x 11), .x 12),
  (.idx (.x 4) (.i .i64 (.ofNat 5)), .x 13),
  (.conv 3 (.x 13), .x 14),
  (.bin .add (.x 12) (.x 14), .x 15),
  (.idx (.x 4) (.i .i64 (.ofNat 6)), .x 16),
  (.conv 3 (.x 16), .x 17),
  (.bin .add (.x 15) (.x 17), .x 18),
  (.bin .lss (.x 6) (.x 18), .b false),
  (.idx (.x 4) (.i .i64 (.ofNat 1)), .x 19),
  (.bin .eql (.x 19) (.i .u8 (.ofNat 0)), .b true),
  (.bin .gtr (.x 6) (.i .i64 (.ofNat 0)), .b true),
  (.bin .mul (.x 10) (.i .i64 (.ofNat 256)), .x 20),
  (.bin .add (.x 20) (.x 14), .x 21),
  (.bin .add (.i .i64 (.ofNat 8)) (.x 21), .x 22),
  (.bin .add (.x 22) (.x 17), .x 23),
  (.bin .lss (.x 6) (.x 23), .b false),
  (.bin .geq (.x 0) (.i .i64 (.ofNat 1)), .b true),
  (.bin .leq (.x 0) (.i .i64 (.ofNat 255)), .b true),
  (.bin .geq (.x 1) (.i .i64 (.ofNat 0)), .b true),
  (.bin .leq (.x 1) (.i .i64 (.ofNat 65535)), .b true),
  (.bin .leq (.x 7) (.i .i64 (.ofNat 65535)), .b true),
  (.bin .geq (.x 3) (.i .i64 (.ofNat 0)), .b true),
  (.bin .leq (.x 3) (.i .i64 (.ofNat 255)), .b true),
  (.conv 5 (.x 0), .x 24),
  (.bin .shr (.x 1) (.i .u64 (.ofNat 8)), .x 25),
  (.conv 5 (.x 25), .x 26),
  (.conv 5 (.x 1), .x 27),
  (.bin .shr (.x 7) (.i .u64 (.ofNat 8)), .x 28),
  (.conv 5 (.x 28), .x 29),
  (.conv 5 (.x 7), .x 30),
  (.conv 5 (.x 3), .x 31),
  (.bytes [.i .u8 (.ofNat 1), .x 24, .x 26, .x 27, .x 29, .x 30, .x 31, .i .u8 (.ofNat 0)], .x 32),
  (.bin .add (.x 32) (.x 2), .x 33),
  (.call 81 [.s 1 0, .x 3], .x 34),
  (.bin .add (.x 33) (.x 34), .x 35),
  (.bytes [.i .u8 (.ofNat 1), .x 24], .x 36),
  (.bin .quo (.x 1) (.i .i64 (.ofNat 256)), .x 37),
  (.conv 5 (.x 37), .x 38),
  (.bin .rem (.x 1) (.i .i64 (.ofNat 256)), .x 39),
  (.conv 5 (.x 39), .x 40),
  (.bytes [.x 38, .x 40], .x 41),
  (.bin .add (.x 36) (.x 41), .x 42),
  (.bin .quo (.x 7) (.i .i64 (.ofNat 256)), .x 43),
  (.conv 5 (.x 43), .x 44),
  (.bin .rem (.x 7) (.i .i64 (.ofNat 256)), .x 45),
  (.conv 5 (.x 45), .x 46),
  (.bytes [.x 44, .x 46], .x 47),
  (.bin .add (.x 42) (.x 47), .x 48),
  (.bytes [.x 31, .i .u8 (.ofNat 0)], .x 49),
  (.bin .add (.x 48) (.x 49), .x 50),
  (.bin .add (.x 50) (.x 2), .x 51),
  (.zer (.x 3), .x 52),
  (.bin .add (.x 51) (.x 52), .x 53),
  (.bin .eql (.x 35) (.x 53), .b true),
  (.bin .eql (.x 4) (.x 4), .b true),
  (.mm true (.x 5) (.i .i64 (.ofNat 0)), .x 54),
  (.un .neg (.x 54), .x 55),
  (.bin .and (.x 55) (.i .i64 (.ofNat 7)), .x 56),
  (.mm true (.i .i64 (.ofNat 0)) (.x 5), .x 57),
  (.bin .rem (.x 57) (.i .i64 (.ofNat 8)), .x 58),
  (.bin .sub (.i .i64 (.ofNat 8)) (.x 58), .x 59),
  (.bin .rem (.x 59) (.i .i64 (.ofNat 8)), .x 60),
  (.bin .eql (.x 56) (.x 60), .b true)]
noncomputable def tab4 : Tab := { tabk with hyp := hy4 }
theorem run4 (e : Nat) : okB (call tab4 9000 5 [.ag [.x 0, .x 1, .x 2, .x 3], .x 4, .x 5] ⟨H0 e , 7, 0, 0⟩) = true := by kernel_rfl
def nu4 (rt : Int) (ri : Int) (c : List UInt8) (rp : Int) (s : List UInt8) (n : Int) : List Value := [.int .i64 (rt),
  .int .i64 (ri),
  St' c,
  .int .i64 (rp),
  St' s,
  .int .i64 (n),
  .int .i64 ((s.length : Int)),
  .int .i64 ((c.length : Int)),
  .int .u8 (bt s 0),
  .int .u8 (bt s 4),
  .int .i64 ((bt s 4)),
  .int .i64 ((bt s 4) * 256),
  .int .i64 ((bt s 4) * 256 + 8),
  .int .u8 (bt s 5),
  .int .i64 ((bt s 5)),
  .int .i64 ((bt s 4) * 256 + (bt s 5) + 8),
  .int .u8 (bt s 6),
  .int .i64 ((bt s 6)),
  .int .i64 ((bt s 4) * 256 + (bt s 5) + (bt s 6) + 8),
  .int .u8 (bt s 1),
  .int .i64 ((bt s 4) * 256),
  .int .i64 ((bt s 4) * 256 + (bt s 5)),
  .int .i64 ((bt s 4) * 256 + (bt s 5) + 8),
  .int .i64 ((bt s 4) * 256 + (bt s 5) + (bt s 6) + 8),
  .int .u8 (rt % 256),
  .int .i64 (ri / 256),
  .int .u8 ((ri / 256) % 256),
  .int .u8 (ri % 256),
  .int .i64 (((c.length : Int)) / 256),
  .int .u8 ((((c.length : Int)) / 256) % 256),
  .int .u8 (((c.length : Int)) % 256),
  .int .u8 (rp % 256),
  St' ([u8 1, u8 (rt % 256), u8 ((ri / 256) % 256), u8 (ri % 256), u8 ((((c.length : Int)) / 256) % 256), u8 (((c.length : Int)) % 256), u8 (rp % 256), u8 0]),
  St' (([u8 1, u8 (rt % 256), u8 ((ri / 256) % 256), u8 (ri % 256), u8 ((((c.length : Int)) / 256) % 256), u8 (((c.length : Int)) % 256), u8 (rp % 256), u8 0] ++ c)),
  St' ((List.replicate (rp).toNat 0)),
  St' (([u8 1, u8 (rt % 256), u8 ((ri / 256) % 256), u8 (ri % 256), u8 ((((c.length : Int)) / 256) % 256), u8 (((c.length : Int)) % 256), u8 (rp % 256), u8 0] ++ (c ++ (List.replicate (rp).toNat 0)))),
  St' ([u8 1, u8 (rt % 256)]),
  .int .i64 (ri / 256),
  .int .u8 ((ri / 256) % 256),
  .int .i64 (ri % 256),
  .int .u8 ((ri % 256)),
  St' ([u8 ((ri / 256) % 256), u8 ((ri % 256))]),
  St' ([u8 1, u8 (rt % 256), u8 ((ri / 256) % 256), u8 ((ri % 256))]),
  .int .i64 (((c.length : Int)) / 256),
  .int .u8 ((((c.length : Int)) / 256) % 256),
  .int .i64 (((c.length : Int)) % 256),
  .int .u8 ((((c.length : Int)) % 256)),
  St' ([u8 ((((c.length : Int)) / 256) % 256), u8 ((((c.length : Int)) % 256))]),
  St' ([u8 1, u8 (rt % 256), u8 ((ri / 256) % 256), u8 ((ri % 256)), u8 ((((c.length : Int)) / 256) % 256), u8 ((((c.length : Int)) % 256))]),
  St' ([u8 (rp % 256), u8 0]),
  St' ([u8 1, u8 (rt % 256), u8 ((ri / 256) % 256), u8 ((ri % 256)), u8 ((((c.length : Int)) / 256) % 256), u8 ((((c.length : Int)) % 256)), u8 (rp % 256), u8 0]),
  St' (([u8 1, u8 (rt % 256), u8 ((ri / 256) % 256), u8 ((ri % 256)), u8 ((((c.length : Int)) / 256) % 256), u8 ((((c.length : Int)) % 256)), u8 (rp % 256), u8 0] ++ c)),
  St' ((List.replicate (rp).toNat 0)),
  St' (([u8 1, u8 (rt % 256), u8 ((ri / 256) % 256), u8 ((ri % 256)), u8 ((((c.length : Int)) / 256) % 256), u8 ((((c.length : Int)) % 256)), u8 (rp % 256), u8 0] ++ (c ++ (List.replicate (rp).toNat 0)))),
  .int .i64 (max n 0),
  .int .i64 (-((max n 0))),
  .int .i64 ((-((max n 0))) % 8),
  .int .i64 (max 0 n),
  .int .i64 ((max 0 n) % 8),
  .int .i64 (8 - ((max 0 n) % 8)),
  .int .i64 ((8 - ((max 0 n) % 8)) % 8)]
theorem one4 (rt : Int) (ri : Int) (c : List UInt8) (rp : Int) (s : List UInt8) (n : Int) : ∀ j, (nuL (nu4 rt ri c rp s n) j).oneCell' = true := nuL_one (l := nu4 rt ri c rp s n) rfl
set_option maxHeartbeats 2000000 in
theorem hyOk4 (rt : Int) (ri : Int) (c : List UInt8) (rp : Int) (s : List UInt8) (n : Int) (b0 : -9223372036854775808 ≤ rt) (b1 : rt ≤ 9223372036854775807) (b2 : -9223372036854775808 ≤ ri) (b3 : ri ≤ 9223372036854775807) (b4 : c.length ≤ 9223372036854775807) (b5 : -9223372036854775808 ≤ rp) (b6 : rp ≤ 9223372036854775807) (b7 : s.length ≤ 9223372036854775807) (b8 : -9223372036854775808 ≤ n) (b9 : n ≤ 9223372036854775807) (h0 : ¬ (3000 < (s.length : Int))) (h1 : ¬ (70000 < (c.length : Int))) (h2 : ¬ ((s.length : Int) = 0)) (h3 : bt s 0 = 1) (h4 : ¬ ((s.length : Int) < 8)) (h5 : ¬ ((s.length : Int) < (bt s 4) * 256 + (bt s 5) + (bt s 6) + 8)) (h6 : bt s 1 = 0) (h9 : 1 ≤ rt) (h10 : rt ≤ 255) (h11 : 0 ≤ ri) (h12 : ri ≤ 65535) (h13 : (c.length : Int) ≤ 65535) (h14 : 0 ≤ rp) (h15 : rp ≤ 255) : ∀ k r, (k, r) ∈ hy4 → HOk (cx (nuL (nu4 rt ri c rp s n)) (one4 rt ri c rp s n) 1 laidE laidE_stab) k r := by
  have := bt_lo s 0; have := bt_hi s 0
  have := bt_lo s 4; have := bt_hi s 4
  have := bt_lo s 5; have := bt_hi s 5
  have := bt_lo s 6; have := bt_hi s 6
  have := bt_lo s 1; have := bt_hi s 1
  unfold hy4
  refine hcons (kLenE (isX rfl) (denX rfl) (by first | omega | (simp only [List.length_append, List.length_cons, List.length_nil, List.length_take, List.length_drop, List.length_replicate, Int.natCast_add] at *; omega))) ?_
  refine hcons (kGt (isX rfl) (isZ (m := 3000) rfl) (decide_eq_false (by omega))) ?_
  refine hcons (kLenE (isX rfl) (denX rfl) (by first | omega | (simp only [List.length_append, List.length_cons, List.length_nil, List.length_take, List.length_drop, List.length_replicate, Int.natCast_add] at *; omega))) ?_
  refine hcons (kGt (isX rfl) (isZ (m := 70000) rfl) (decide_eq_false (by omega))) ?_
  refine hcons (kNeS (isX rfl) (isSx (l := ([] : List UInt8)) 0 0 rfl) (bnT (by first | exact nilT (by first | omega | (simp only [List.length_append, List.length_cons, List.length_nil, List.length_take, List.length_drop, List.length_replicate, Int.natCast_add] at *; omega)) | exact nilF (by first | omega | (simp only [List.length_append, List.length_cons, List.length_nil, List.length_take, List.length_drop, List.length_replicate, Int.natCast_add] at *; omega)) | exact nilT' (by first | omega | (simp only [List.length_append, List.length_cons, List.length_nil, List.length_take, List.length_drop, List.length_replicate, Int.natCast_add] at *; omega)) | exact nilF' (by first | omega | (simp only [List.length_append, List.length_cons, List.length_nil, List.length_take, List.length_drop, List.length_replicate, Int.natCast_add] at *; omega))))) ?_
  refine hcons (kIdxE (i := 0) (isX rfl) (isZ (m := 0) rfl) (denX rfl) rfl (by first | omega | (simp only [List.length_append, List.length_cons, List.length_nil, List.length_take, List.length_drop, List.length_replicate, Int.natCast_add] at *; omega)) rfl) ?_
  refine hcons (kNeI (isX rfl) (isZ (m := 1) rfl) (neF (by omega))) ?_
  refine hcons (kLt (isX rfl) (isZ (m := 8) rfl) (decide_eq_false (by omega))) ?_
  refine hcons (kIdxE (i := 4) (isX rfl) (isZ (m := 4) rfl) (denX rfl) rfl (by first | omega | (simp only [List.length_append, List.length_cons, List.length_nil, List.length_take, List.length_drop, List.length_replicate, Int.natCast_add] at *; omega)) rfl) ?_
  refine hcons (kConvF (isX rfl) tu3 (denX rfl) (fI64 (by omega) (by omega))) ?_
  refine hcons (kShlM 8 256 rfl (isX rfl) (isZ (m := 8) rfl) (denX rfl) rfl (by decide) (by omega) (fI64 (by omega) (by omega))) ?_
  refine hcons (kAdd (isZ (m := 8) rfl) (isX rfl) (denX rfl) (by omega) (fI64 (by omega) (by omega))) ?_
  refine hcons (kIdxE (i := 5) (isX rfl) (isZ (m := 5) rfl) (denX rfl) rfl (by first | omega | (simp only [List.length_append, List.length_cons, List.length_nil, List.length_take, List.length_drop, List.length_replicate, Int.natCast_add] at *; omega)) rfl) ?_
  refine hcons (kConvF (isX rfl) tu3 (denX rfl) (fI64 (by omega) (by omega))) ?_
  refine hcons (kAdd (isX rfl) (isX rfl) (denX rfl) (by omega) (fI64 (by omega) (by omega))) ?_
  refine hcons (kIdxE (i := 6) (isX rfl) (isZ (m := 6) rfl) (denX rfl) rfl (by first | omega | (simp only [List.length_append, List.length_cons, List.length_nil, List.length_take, List.length_drop, List.length_replicate, Int.natCast_add] at *; omega)) rfl) ?_
  refine hcons (kConvF (isX rfl) tu3 (denX rfl) (fI64 (by omega) (by omega))) ?_
  refine hcons (kAdd (isX rfl) (isX rfl) (denX rfl) (by omega) (fI64 (by omega) (by omega))) ?_
  refine hcons (kLt (isX rfl) (isX rfl) (decide_eq_false (by omega))) ?_
  refine hcons (kIdxE (i := 1) (isX rfl) (isZ (m := 1) rfl) (denX rfl) rfl (by first | omega | (simp only [List.length_append, List.length_cons, List.length_nil, List.length_take, List.length_drop, List.length_replicate, Int.natCast_add] at *; omega)) rfl) ?_
  refine hcons (kEqI (isX rfl) (isZ (m := 0) rfl) (decide_eq_true (by omega))) ?_
  refine hcons (kGt (isX rfl) (isZ (m := 0) rfl) (decide_eq_true (by omega))) ?_
  refine hcons (kMul (isX rfl) (isZ (m := 256) rfl) (denX rfl) (by omega) (fI64 (by omega) (by omega))) ?_
  refine hcons (kAdd (isX rfl) (isX rfl) (denX rfl) (by omega) (fI64 (by omega) (by omega))) ?_
  refine hcons (kAdd (isZ (m := 8) rfl) (isX rfl) (denX rfl) (by omega) (fI64 (by omega) (by omega))) ?_
  refine hcons (kAdd (isX rfl) (isX rfl) (denX rfl) (by omega) (fI64 (by omega) (by omega))) ?_
  refine hcons (kLt (isX rfl) (isX rfl) (decide_eq_false (by omega))) ?_
  refine hcons (kGe (isX rfl) (isZ (m := 1) rfl) (decide_eq_true (by omega))) ?_
  refine hcons (kLe (isX rfl) (isZ (m := 255) rfl) (decide_eq_true (by omega))) ?_
  refine hcons (kGe (isX rfl) (isZ (m := 0) rfl) (decide_eq_true (by omega))) ?_
  refine hcons (kLe (isX rfl) (isZ (m := 65535) rfl) (decide_eq_true (by omega))) ?_
  refine hcons (kLe (isX rfl) (isZ (m := 65535) rfl) (decide_eq_true (by omega))) ?_
  refine hcons (kGe (isX rfl) (isZ (m := 0) rfl) (decide_eq_true (by omega))) ?_
  refine hcons (kLe (isX rfl) (isZ (m := 255) rfl) (decide_eq_true (by omega))) ?_
  refine hcons (kConv8 (isX rfl) tu5 (denX rfl) rfl) ?_
  refine hcons (kShrM 8 256 rfl (isX rfl) (isZ (m := 8) rfl) (denX rfl) rfl (by decide) (by omega) rfl) ?_
  refine hcons (kConv8 (isX rfl) tu5 (denX rfl) rfl) ?_
  refine hcons (kConv8 (isX rfl) tu5 (denX rfl) rfl) ?_
  refine hcons (kShrM 8 256 rfl (isX rfl) (isZ (m := 8) rfl) (denX rfl) rfl (by decide) (by omega) rfl) ?_
  refine hcons (kConv8 (isX rfl) tu5 (denX rfl) rfl) ?_
  refine hcons (kConv8 (isX rfl) tu5 (denX rfl) rfl) ?_
  refine hcons (kConv8 (isX rfl) tu5 (denX rfl) rfl) ?_
  refine hcons (kBytesB (bs := [u8 1, u8 (rt % 256), u8 ((ri / 256) % 256), u8 (ri % 256), u8 ((((c.length : Int)) / 256) % 256), u8 (((c.length : Int)) % 256), u8 (rp % 256), u8 0]) (.cons (isB8 (isZ (m := 1) rfl) (by omega) (by omega)) (.cons (isB8 (isX rfl) (by omega) (by omega)) (.cons (isB8 (isX rfl) (by omega) (by omega)) (.cons (isB8 (isX rfl) (by omega) (by omega)) (.cons (isB8 (isX rfl) (by omega) (by omega)) (.cons (isB8 (isX rfl) (by omega) (by omega)) (.cons (isB8 (isX rfl) (by omega) (by omega)) (.cons (isB8 (isZ (m := 0) rfl) (by omega) (by omega)) .nil)))))))) (denX rfl)) ?_
  refine hcons (kCat (isX rfl) (isX rfl) (denX rfl) (by first | rfl | (simp only [List.append_assoc, List.cons_append, List.nil_append, List.append_nil]; done)) (by first | omega | (simp only [List.length_append, List.length_cons, List.length_nil, List.length_take, List.length_drop, List.length_replicate, Int.natCast_add] at *; omega))) ?_
  refine hcons (hokRep rfl rfl (by omega) (by omega)) ?_
  refine hcons (kCat (isX rfl) (isX rfl) (denX rfl) (by first | rfl | (simp only [List.append_assoc, List.cons_append, List.nil_append, List.append_nil]; done)) (by first | omega | (simp only [List.length_append, List.length_cons, List.length_nil, List.length_take, List.length_drop, List.length_replicate, Int.natCast_add] at *; omega))) ?_
  refine hcons (kBytesB (bs := [u8 1, u8 (rt % 256)]) (.cons (isB8 (isZ (m := 1) rfl) (by omega) (by omega)) (.cons (isB8 (isX rfl) (by omega) (by omega)) .nil)) (denX rfl)) ?_
  refine hcons (kQuo (isX rfl) (isZ (m := 256) rfl) (denX rfl) (by omega) (by omega) rfl (fI64 (by omega) (by omega))) ?_
  refine hcons (kConv8 (isX rfl) tu5 (denX rfl) rfl) ?_
  refine hcons (kRem (isX rfl) (isZ (m := 256) rfl) (denX rfl) (by omega) (by omega) rfl) ?_
  refine hcons (kConvF (isX rfl) tu5 (denX rfl) (fU8 (by omega) (by omega))) ?_
  refine hcons (kBytesB (bs := [u8 ((ri / 256) % 256), u8 ((ri % 256))]) (.cons (isB8 (isX rfl) (by omega) (by omega)) (.cons (isB8 (isX rfl) (by omega) (by omega)) .nil)) (denX rfl)) ?_
  refine hcons (kCat (isX rfl) (isX rfl) (denX rfl) (by first | rfl | (simp only [List.append_assoc, List.cons_append, List.nil_append, List.append_nil]; done)) (by first | omega | (simp only [List.length_append, List.length_cons, List.length_nil, List.length_take, List.length_drop, List.length_replicate, Int.natCast_add] at *; omega))) ?_
  refine hcons (kQuo (isX rfl) (isZ (m := 256) rfl) (denX rfl) (by omega) (by omega) rfl (fI64 (by omega) (by omega))) ?_
  refine hcons (kConv8 (isX rfl) tu5 (denX rfl) rfl) ?_
  refine hcons (kRem (isX rfl) (isZ (m := 256) rfl) (denX rfl) (by omega) (by omega) rfl) ?_
  refine hcons (kConvF (isX rfl) tu5 (denX rfl) (fU8 (by omega) (by omega))) ?_
  refine hcons (kBytesB (bs := [u8 ((((c.length : Int)) / 256) % 256), u8 ((((c.length : Int)) % 256))]) (.cons (isB8 (isX rfl) (by omega) (by omega)) (.cons (isB8 (isX rfl) (by omega) (by omega)) .nil)) (denX rfl)) ?_
  refine hcons (kCat (isX rfl) (isX rfl) (denX rfl) (by first | rfl | (simp only [List.append_assoc, List.cons_append, List.nil_append, List.append_nil]; done)) (by first | omega | (simp only [List.length_append, List.length_cons, List.length_nil, List.length_take, List.length_drop, List.length_replicate, Int.natCast_add] at *; omega))) ?_
  refine hcons (kBytesB (bs := [u8 (rp % 256), u8 0]) (.cons (isB8 (isX rfl) (by omega) (by omega)) (.cons (isB8 (isZ (m := 0) rfl) (by omega) (by omega)) .nil)) (denX rfl)) ?_
  refine hcons (kCat (isX rfl) (isX rfl) (denX rfl) (by first | rfl | (simp only [List.append_assoc, List.cons_append, List.nil_append, List.append_nil]; done)) (by first | omega | (simp only [List.length_append, List.length_cons, List.length_nil, List.length_take, List.length_drop, List.length_replicate, Int.natCast_add] at *; omega))) ?_
  refine hcons (kCat (isX rfl) (isX rfl) (denX rfl) (by first | rfl | (simp only [List.append_assoc, List.cons_append, List.nil_append, List.append_nil]; done)) (by first | omega | (simp only [List.length_append, List.length_cons, List.length_nil, List.length_take, List.length_drop, List.length_replicate, Int.natCast_add] at *; omega))) ?_
  refine hcons (kZer (isX rfl) (by omega) (by omega) (denX rfl)) ?_
  refine hcons (kCat (isX rfl) (isX rfl) (denX rfl) (by first | rfl | (simp only [List.append_assoc, List.cons_append, List.nil_append, List.append_nil]; done)) (by first | omega | (simp only [List.length_append, List.length_cons, List.length_nil, List.length_take, List.length_drop, List.length_replicate, Int.natCast_add] at *; omega))) ?_
  refine hcons (kEqS (isX rfl) (isX rfl) (by first | exact decide_eq_true rfl | exact decide_eq_true ‹_› | exact decide_eq_false ‹_›)) ?_
  refine hcons (kEqS (isX rfl) (isX rfl) (decide_eq_true rfl)) ?_
  refine hcons (kMax (isX rfl) (isZ (m := 0) rfl) (denX rfl) rfl) ?_
  refine hcons (kNeg (isX rfl) (denX rfl) (by omega) (fI64 (by omega) (by omega))) ?_
  refine hcons (kAndG 3 8 rfl (by decide) (isX rfl) (isZ (m := 7) rfl) (denX rfl) (fI64 (by omega) (by omega)) rfl rfl (fI64 (by omega) (by omega))) ?_
  refine hcons (kMax (isZ (m := 0) rfl) (isX rfl) (denX rfl) rfl) ?_
  refine hcons (kRem (isX rfl) (isZ (m := 8) rfl) (denX rfl) (by omega) (by omega) rfl) ?_
  refine hcons (kSub (isZ (m := 8) rfl) (isX rfl) (denX rfl) (by omega) (fI64 (by omega) (by omega))) ?_
  refine hcons (kRem (isX rfl) (isZ (m := 8) rfl) (denX rfl) (by omega) (by omega) rfl) ?_
  refine hcons (kEqI (isX rfl) (isX rfl) (decide_eq_true (by omega))) ?_
  exact hnil
theorem path4 (rt : Int) (ri : Int) (c : List UInt8) (rp : Int) (s : List UInt8) (n : Int) (b0 : -9223372036854775808 ≤ rt) (b1 : rt ≤ 9223372036854775807) (b2 : -9223372036854775808 ≤ ri) (b3 : ri ≤ 9223372036854775807) (b4 : c.length ≤ 9223372036854775807) (b5 : -9223372036854775808 ≤ rp) (b6 : rp ≤ 9223372036854775807) (b7 : s.length ≤ 9223372036854775807) (b8 : -9223372036854775808 ≤ n) (b9 : n ≤ 9223372036854775807) (h0 : ¬ (3000 < (s.length : Int))) (h1 : ¬ (70000 < (c.length : Int))) (h2 : ¬ ((s.length : Int) = 0)) (h3 : bt s 0 = 1) (h4 : ¬ ((s.length : Int) < 8)) (h5 : ¬ ((s.length : Int) < (bt s 4) * 256 + (bt s 5) + (bt s 6) + 8)) (h6 : bt s 1 = 0) (h9 : 1 ≤ rt) (h10 : rt ≤ 255) (h11 : 0 ≤ ri) (h12 : ri ≤ 65535) (h13 : (c.length : Int) ≤ 65535) (h14 : 0 ≤ rp) (h15 : rp ≤ 255) (w : World) (hl : laidE w) : Calls Tryd.prog 5 #[.agg #[.int .i64 rt, .int .i64 ri, St' c, .int .i64 rp], St' s, .int .i64 n] w fun e w' => e = .returned (.bool true) ∧ Go.AX.Below w.heap.size w w' := by
  obtain ⟨fi, hfi, hb⟩ : ∃ fi, tabk.fn.get 5 = some fi ∧ fi.body.isSome = true := ⟨_, rfl, by kernel_rfl⟩
  exact runP (tb := tab4) ((tabkOk (nuL (nu4 rt ri c rp s n)) (one4 rt ri c rp s n)).hyps (hyOk4 rt ri c rp s n b0 b1 b2 b3 b4 b5 b6 b7 b8 b9 h0 h1 h2 h3 h4 h5 h6 h9 h10 h11 h12 h13 h14 h15)) rfl hfi hb (fun e => run4 e ) (args := [.agg #[.int .i64 rt, .int .i64 ri, St' c, .int .i64 rp], St' s, .int .i64 n]) (by simp only [RelL, Rel]; exact ⟨_, _, rfl, ⟨_, rfl, ⟨_, _, rfl, rfl, ⟨_, _, rfl, rfl, ⟨_, _, rfl, rfl, ⟨_, _, rfl, rfl, rfl⟩⟩⟩⟩⟩, ⟨_, _, rfl, rfl, ⟨_, _, rfl, rfl, rfl⟩⟩⟩) w hl
def hy5 : List (HK × AV) := [(.len (.x 4), .x 6),
  (.bin .gtr (.x 6) (.i .i64 (.ofNat 3000)), .b false),
  (.len (.x 2), .x 7),
  (.bin .gtr (.x 7) (.i .i64 (.ofNat 70000)), .b false),
  (.bin .neq (.x 4) (.s 0 0), .b true),
  (.idx (.x 4) (.i .i64 (.ofNat 0)), .x 8),
  (.bin .neq (.x 8) (.i .u8 (.ofNat 1)), .b false),
  (.bin .lss (.x 6) (.i .i64 (.ofNat 8)), .b false),
  (.idx (.x 4) (.i .i64 (.ofNat 4)), .x 9),
  (.conv 3 (.x 9), .x 10),
  (.bin .shl (.x 10) (.i .u64 (.ofNat 8)), .x 11),
  (.bin .add (.i .i64 (.ofNat 8)) (.x 11), .x 12),
  (.idx (.x 4) (.i .i64 (.ofNat 5)), .x 13),
  (.conv 3 (.x 13), .x 14),
  (.bin .add (.x 12) (.x 14), .x 15),
  (.idx (.x 4) (.i .i64 (.ofNat 6)), .x 16),
  (.conv 3 (.x 16), .x 17),
  (.bin .add (.x 15) (.x 17), .x 18),
  (.bin .lss (.x 6) (.x 18), .b true),
  (.bin .gtr (.x 6) (.i .i64 (.ofNat 0)), .b true),
  (.bin .mul (.x 10) (.i .i64 (.ofNat 256)), .x 19),
  (.bin .add (.x 19) (.x 14), .x 20),
  (.bin .add (.i .i64 (.ofNat 8)) (.x 20), .x 21),
  (.bin .add (.x 21) (.x 17), .x 22),
  (.bin .lss (.x 6) (.x 22), .b true),
  (.bin .geq (.x 0) (.i .i64 (.ofNat 1)), .b true),
  (.bin .leq (.x 0) (.i .i64 (.ofNat 255)), .b true),
  (.bin .geq (.x 1) (.i .i64 (.ofNat 0)), .b true),
  (.bin .leq (.x 1) (.i .i64 (.ofNat 65535)), .b true),
  (.bin .leq (.x 7) (.i .i64 (.ofNat 65535)), .b true),
  (.bin .geq (.x 3) (.i .i64 (.ofNat 0)), .b true),
  (.bin .leq (.x 3) (.i .i64 (.ofNat 255)), .b true),
  (.conv 5 (.x 0), .x 23),
  (.bin .shr (.x 1) (.i .u64 (.ofNat 8)), .x 24),
  (.conv 5 (.x 24), .x 25),
  (.conv 5 (.x 1), .x 26),
  (.bin .shr (.x 7) (.i .u64 (.ofNat 8)), .x 27),
  (.conv 5 (.x 27), .x 28),
  (.conv 5 (.x 7), .x 29),
  (.conv 5 (.x 3), .x 30),
  (.bytes [.i .u8 (.ofNat 1), .x 23, .x 25, .x 26, .x 28, .x 29, .x 30, .i .u8 (.ofNat 0)], .x 31),
  (.bin .add (.x 31) (.x 2), .x 32),
  (.call 81 [.s 1 0, .x 3], .x 33),
  (.bin .add (.x 32) (.x 33), .x 34),
  (.bytes [.i .u8 (.ofNat 1), .x 23], .x 35),
  (.bin .quo (.x 1) (.i .i64 (.ofNat 256)), .x 36),
  (.conv 5 (.x 36), .x 37),
  (.bin .rem (.x 1) (.i .i64 (.ofNat 256)), .x 38),
  (.conv 5 (.x 38), .x 39),
  (.bytes [.x 37, .x 39], .x 40),
  (.bin .add (.x 35) (.x 40), .x 41),
  (.bin .quo (.x 7) (.i .i64 (.ofNat 256)), .x 42),
  (.conv 5 (.x 42), .x 43),
  (.bin .rem (.x 7) (.i .i64 (.ofNat 256)), .x 44),
  (.conv 5 (.x 44), .x 45),
  (.bytes [.x 43, .x 45], .x 46),
  (.bin .add (.x 41) (.x 46), .x 47),
  (.bytes [.x 30, .i .u8 (.ofNat 0)], .x 48),
  (.bin .add (.x 47) (.x 48), .x 49),
  (.bin .add (.x 49) (.x 2), .x 50),
  (.zer (.x 3), .x 51),
  (.bin .add (.x 50) (.x 51), .x 52),
  (.bin .eql (.x 34) (.x 52), .b true),
  (.bin .eql (.x 4) (.x 4), .b true),
  (.mm true (.x 5) (.i .i64 (.ofNat 0)), .x 53),
  (.un .neg (.x 53), .x 54),
  (.bin .and (.x 54) (.i .i64 (.ofNat 7)), .x 55),
  (.mm true (.i .i64 (.ofNat 0)) (.x 5), .x 56),
  (.bin .rem (.x 56) (.i .i64 (.ofNat 8)), .x 57),
  (.bin .sub (.i .i64 (.ofNat 8)) (.x 57), .x 58),
  (.bin .rem (.x 58) (.i .i64 (.ofNat 8)), .x 59),
  (.bin .eql (.x 55) (.x 59), .b true)]
noncomputable def tab5 : Tab := { tabk with hyp := hy5 }
theorem run5 (e : Nat) : okB (call tab5 9000 5 [.ag [.x 0, .x 1, .x 2, .x 3], .x 4, .x 5] ⟨H0 e , 7, 0, 0⟩) = true := by kernel_rfl
def nu5 (rt : Int) (ri : Int) (c : List UInt8) (rp : Int) (s : List UInt8) (n : Int) : List Value := [.int .i64 (rt),
  .int .i64 (ri),
  St' c,
  .int .i64 (rp),
  St' s,
  .int .i64 (n),
  .int .i64 ((s.length : Int)),
  .int .i64 ((c.length : Int)),
  .int .u8 (bt s 0),
  .int .u8 (bt s 4),
  .int .i64 ((bt s 4)),
  .int .i64 ((bt s 4) * 256),
  .int .i64 ((bt s 4) * 256 + 8),
  .int .u8 (bt s 5),
  .int .i64 ((bt s 5)),
  .int .i64 ((bt s 4) * 256 + (bt s 5) + 8),
  .int .u8 (bt s 6),
  .int .i64 ((bt s 6)),
  .int .i64 ((bt s 4) * 256 + (bt s 5) + (bt s 6) + 8),
  .int .i64 ((bt s 4) * 256),
  .int .i64 ((bt s 4) * 256 + (bt s 5)),
  .int .i64 ((bt s 4) * 256 + (bt s 5) + 8),
  .int .i64 ((bt s 4) * 256 + (bt s 5) + (bt s 6) + 8),
  .int .u8 (rt % 256),
  .int .i64 (ri / 256),
  .int .u8 ((ri / 256) % 256),
  .int .u8 (ri % 256),
  .int .i64 (((c.length : Int)) / 256),
  .int .u8 ((((c.length : Int)) / 256) % 256),
  .int .u8 (((c.length : Int)) % 256),
  .int .u8 (rp % 256),
  St' ([u8 1, u8 (rt % 256), u8 ((ri / 256) % 256), u8 (ri % 256), u8 ((((c.length : Int)) / 256) % 256), u8 (((c.length : Int)) % 256), u8 (rp % 256), u8 0]),
  St' (([u8 1, u8 (rt % 256), u8 ((ri / 256) % 256), u8 (ri % 256), u8 ((((c.length : Int)) / 256) % 256), u8 (((c.length : Int)) % 256), u8 (rp % 256), u8 0] ++ c)),
  St' ((List.replicate (rp).toNat 0)),
  St' (([u8 1, u8 (rt % 256), u8 ((ri / 256) % 256), u8 (ri % 256), u8 ((((c.length : Int)) / 256) % 256), u8 (((c.length : Int)) % 256), u8 (rp % 256), u8 0] ++ (c ++ (List.replicate (rp).toNat 0)))),
  St' ([u8 1, u8 (rt % 256)]),
  .int .i64 (ri / 256),
  .int .u8 ((ri / 256) % 256),
  .int .i64 (ri % 256),
  .int .u8 ((ri % 256)),
  St' ([u8 ((ri / 256) % 256), u8 ((ri % 256))]),
  St' ([u8 1, u8 (rt % 256), u8 ((ri / 256) % 256), u8 ((ri % 256))]),
  .int .i64 (((c.length : Int)) / 256),
  .int .u8 ((((c.length : Int)) / 256) % 256),
  .int .i64 (((c.length : Int)) % 256),
  .int .u8 ((((c.length : Int)) % 256)),
  St' ([u8 ((((c.length : Int)) / 256) % 256), u8 ((((c.length : Int)) % 256))]),
  St' ([u8 1, u8 (rt % 256), u8 ((ri / 256) % 256), u8 ((ri % 256)), u8 ((((c.length : Int)) / 256) % 256), u8 ((((c.length : Int)) % 256))]),
  St' ([u8 (rp % 256), u8 0]),
  St' ([u8 1, u8 (rt % 256), u8 ((ri / 256) % 256), u8 ((ri % 256)), u8 ((((c.length : Int)) / 256) % 256), u8 ((((c.length : Int)) % 256)), u8 (rp % 256), u8 0]),
  St' (([u8 1, u8 (rt % 256), u8 ((ri / 256) % 256), u8 ((ri % 256)), u8 ((((c.length : Int)) / 256) % 256), u8 ((((c.length : Int)) % 256)), u8 (rp % 256), u8 0] ++ c)),
  St' ((List.replicate (rp).toNat 0)),
  St' (([u8 1, u8 (rt % 256), u8 ((ri / 256) % 256), u8 ((ri % 256)), u8 ((((c.length : Int)) / 256) % 256), u8 ((((c.length : Int)) % 256)), u8 (rp % 256), u8 0] ++ (c ++ (List.replicate (rp).toNat 0)))),
  .int .i64 (max n 0),
  .int .i64 (-((max n 0))),
  .int .i64 ((-((max n 0))) % 8),
  .int .i64 (max 0 n),
  .int .i64 ((max 0 n) % 8),
  .int .i64 (8 - ((max 0 n) % 8)),
  .int .i64 ((8 - ((max 0 n) % 8)) % 8)]
theorem one5 (rt : Int) (ri : Int) (c : List UInt8) (rp : Int) (s : List UInt8) (n : Int) : ∀ j, (nuL (nu5 rt ri c rp s n) j).oneCell' = true := nuL_one (l := nu5 rt ri c rp s n) rfl
set_option maxHeartbeats 2000000 in
theorem hyOk5 (rt : Int) (ri : Int) (c : List UInt8) (rp : Int) (s : List UInt8) (n : Int) (b0 : -9223372036854775808 ≤ rt) (b1 : rt ≤ 9223372036854775807) (b2 : -9223372036854775808 ≤ ri) (b3 : ri ≤ 9223372036854775807) (b4 : c.length ≤ 9223372036854775807) (b5 : -9223372036854775808 ≤ rp) (b6 : rp ≤ 9223372036854775807) (b7 : s.length ≤ 9223372036854775807) (b8 : -9223372036854775808 ≤ n) (b9 : n ≤ 9223372036854775807) (h0 : ¬ (3000 < (s.length : Int))) (h1 : ¬ (70000 < (c.length : Int))) (h2 : ¬ ((s.length : Int) = 0)) (h3 : bt s 0 = 1) (h4 : ¬ ((s.length : Int) < 8)) (h5 : (s.length : Int) < (bt s 4) * 256 + (bt s 5) + (bt s 6) + 8) (h8 : 1 ≤ rt) (h9 : rt ≤ 255) (h10 : 0 ≤ ri) (h11 : ri ≤ 65535) (h12 : (c.length : Int) ≤ 65535) (h13 : 0 ≤ rp) (h14 : rp ≤ 255) : ∀ k r, (k, r) ∈ hy5 → HOk (cx (nuL (nu5 rt ri c rp s n)) (one5 rt ri c rp s n) 1 laidE laidE_stab) k r := by
  have := bt_lo s 0; have := bt_hi s 0
  have := bt_lo s 4; have := bt_hi s 4
  have := bt_lo s 5; have := bt_hi s 5
  have := bt_lo s 6; have := bt_hi s 6
  unfold hy5
  refine hcons (kLenE (isX rfl) (denX rfl) (by first | omega | (simp only [List.length_append, List.length_cons, List.length_nil, List.length_take, List.length_drop, List.length_replicate, Int.natCast_add] at *; omega))) ?_
  refine hcons (kGt (isX rfl) (isZ (m := 3000) rfl) (decide_eq_false (by omega))) ?_
  refine hcons (kLenE (isX rfl) (denX rfl) (by first | omega | (simp only [List.length_append, List.length_cons, List.length_nil, List.length_take, List.length_drop, List.length_replicate, Int.natCast_add] at *; omega))) ?_
  refine hcons (kGt (isX rfl) (isZ (m := 70000) rfl) (decide_eq_false (by omega))) ?_
  refine hcons (kNeS (isX rfl) (isSx (l := ([] : List UInt8)) 0 0 rfl) (bnT (by first | exact nilT (by first | omega | (simp only [List.length_append, List.length_cons, List.length_nil, List.length_take, List.length_drop, List.length_replicate, Int.natCast_add] at *; omega)) | exact nilF (by first | omega | (simp only [List.length_append, List.length_cons, List.length_nil, List.length_take, List.length_drop, List.length_replicate, Int.natCast_add] at *; omega)) | exact nilT' (by first | omega | (simp only [List.length_append, List.length_cons, List.length_nil, List.length_take, List.length_drop, List.length_replicate, Int.natCast_add] at *; omega)) | exact nilF' (by first | omega | (simp only [List.length_append, List.length_cons, List.length_nil, List.length_take, List.length_drop, List.length_replicate, Int.natCast_add] at *; omega))))) ?_
  refine hcons (kIdxE (i := 0) (isX rfl) (isZ (m := 0) rfl) (denX rfl) rfl (by first | omega | (simp only [List.length_append, List.length_cons, List.length_nil, List.length_take, List.length_drop, List.length_replicate, Int.natCast_add] at *; omega)) rfl) ?_
  refine hcons (kNeI (isX rfl) (isZ (m := 1) rfl) (neF (by omega))) ?_
  refine hcons (kLt (isX rfl) (isZ (m := 8) rfl) (decide_eq_false (by omega))) ?_
  refine hcons (kIdxE (i := 4) (isX rfl) (isZ (m := 4) rfl) (denX rfl) rfl (by first | omega | (simp only [List.length_append, List.length_cons, List.length_nil, List.length_take, List.length_drop, List.length_replicate, Int.natCast_add] at *; omega)) rfl) ?_
  refine hcons (kConvF (isX rfl) tu3 (denX rfl) (fI64 (by omega) (by omega))) ?_
  refine hcons (kShlM 8 256 rfl (isX rfl) (isZ (m := 8) rfl) (denX rfl) rfl (by decide) (by omega) (fI64 (by omega) (by omega))) ?_
  refine hcons (kAdd (isZ (m := 8) rfl) (isX rfl) (denX rfl) (by omega) (fI64 (by omega) (by omega))) ?_
  refine hcons (kIdxE (i := 5) (isX rfl) (isZ (m := 5) rfl) (denX rfl) rfl (by first | omega | (simp only [List.length_append, List.length_cons, List.length_nil, List.length_take, List.length_drop, List.length_replicate, Int.natCast_add] at *; omega)) rfl) ?_
  refine hcons (kConvF (isX rfl) tu3 (denX rfl) (fI64 (by omega) (by omega))) ?_
  refine hcons (kAdd (isX rfl) (isX rfl) (denX rfl) (by omega) (fI64 (by omega) (by omega))) ?_
  refine hcons (kIdxE (i := 6) (isX rfl) (isZ (m := 6) rfl) (denX rfl) rfl (by first | omega | (simp only [List.length_append, List.length_cons, List.length_nil, List.length_take, List.length_drop, List.length_replicate, Int.natCast_add] at *; omega)) rfl) ?_
  refine hcons (kConvF (isX rfl) tu3 (denX rfl) (fI64 (by omega) (by omega))) ?_
  refine hcons (kAdd (isX rfl) (isX rfl) (denX rfl) (by omega) (fI64 (by omega) (by omega))) ?_
  refine hcons (kLt (isX rfl) (isX rfl) (decide_eq_true (by omega))) ?_
  refine hcons (kGt (isX rfl) (isZ (m := 0) rfl) (decide_eq_true (by omega))) ?_
  refine hcons (kMul (isX rfl) (isZ (m := 256) rfl) (denX rfl) (by omega) (fI64 (by omega) (by omega))) ?_
  refine hcons (kAdd (isX rfl) (isX rfl) (denX rfl) (by omega) (fI64 (by omega) (by omega))) ?_
  refine hcons (kAdd (isZ (m := 8) rfl) (isX rfl) (denX rfl) (by omega) (fI64 (by omega) (by omega))) ?_
  refine hcons (kAdd (isX rfl) (isX rfl) (denX rfl) (by omega) (fI64 (by omega) (by omega))) ?_
  refine hcons (kLt (isX rfl) (isX rfl) (decide_eq_true (by omega))) ?_
  refine hcons (kGe (isX rfl) (isZ (m := 1) rfl) (decide_eq_true (by omega))) ?_
  refine hcons (kLe (isX rfl) (isZ (m := 255) rfl) (decide_eq_true (by omega))) ?_
  refine hcons (kGe (isX rfl) (isZ (m := 0) rfl) (decide_eq_true (by omega))) ?_
  refine hcons (kLe (isX rfl) (isZ (m := 65535) rfl) (decide_eq_true (by omega))) ?_
  refine hcons (kLe (isX rfl) (isZ (m := 65535) rfl) (decide_eq_true (by omega))) ?_
  refine hcons (kGe (isX rfl) (isZ (m := 0) rfl) (decide_eq_true (by omega))) ?_
  refine hcons (kLe (isX rfl) (isZ (m := 255) rfl) (decide_eq_true (by omega))) ?_
  refine hcons (kConv8 (isX rfl) tu5 (denX rfl) rfl) ?_
  refine hcons (kShrM 8 256 rfl (isX rfl) (isZ (m := 8) rfl) (denX rfl) rfl (by decide) (by omega) rfl) ?_
  refine hcons (kConv8 (isX rfl) tu5 (denX rfl) rfl) ?_
  refine hcons (kConv8 (isX rfl) tu5 (denX rfl) rfl) ?_
  refine hcons (kShrM 8 256 rfl (isX rfl) (isZ (m := 8) rfl) (denX rfl) rfl (by decide) (by omega) rfl) ?_
  refine hcons (kConv8 (isX rfl) tu5 (denX rfl) rfl) ?_
  refine hcons (kConv8 (isX rfl) tu5 (denX rfl) rfl) ?_
  refine hcons (kConv8 (isX rfl) tu5 (denX rfl) rfl) ?_
  refine hcons (kBytesB (bs := [u8 1, u8 (rt % 256), u8 ((ri / 256) % 256), u8 (ri % 256), u8 ((((c.length : Int)) / 256) % 256), u8 (((c.length : Int)) % 256), u8 (rp % 256), u8 0]) (.cons (isB8 (isZ (m := 1) rfl) (by omega) (by omega)) (.cons (isB8 (isX rfl) (by omega) (by omega)) (.cons (isB8 (isX rfl) (by omega) (by omega)) (.cons (isB8 (isX rfl) (by omega) (by omega)) (.cons (isB8 (isX rfl) (by omega) (by omega)) (.cons (isB8 (isX rfl) (by omega) (by omega)) (.cons (isB8 (isX rfl) (by omega) (by omega)) (.cons (isB8 (isZ (m := 0) rfl) (by omega) (by omega)) .nil)))))))) (denX rfl)) ?_
  refine hcons (kCat (isX rfl) (isX rfl) (denX rfl) (by first | rfl | (simp only [List.append_assoc, List.cons_append, List.nil_append, List.append_nil]; done)) (by first | omega | (simp only [List.length_append, List.length_cons, List.length_nil, List.length_take, List.length_drop, List.length_replicate, Int.natCast_add] at *; omega))) ?_
  refine hcons (hokRep rfl rfl (by omega) (by omega)) ?_
  refine hcons (kCat (isX rfl) (isX rfl) (denX rfl) (by first | rfl | (simp only [List.append_assoc, List.cons_append, List.nil_append, List.append_nil]; done)) (by first | omega | (simp only [List.length_append, List.length_cons, List.length_nil, List.length_take, List.length_drop, List.length_replicate, Int.natCast_add] at *; omega))) ?_
  refine hcons (kBytesB (bs := [u8 1, u8 (rt % 256)]) (.cons (isB8 (isZ (m := 1) rfl) (by omega) (by omega)) (.cons (isB8 (isX rfl) (by omega) (by omega)) .nil)) (denX rfl)) ?_
  refine hcons (kQuo (isX rfl) (isZ (m := 256) rfl) (denX rfl) (by omega) (by omega) rfl (fI64 (by omega) (by omega))) ?_
  refine hcons (kConv8 (isX rfl) tu5 (denX rfl) rfl) ?_
  refine hcons (kRem (isX rfl) (isZ (m := 256) rfl) (denX rfl) (by omega) (by omega) rfl) ?_
  refine hcons (kConvF (isX rfl) tu5 (denX rfl) (fU8 (by omega) (by omega))) ?_
  refine hcons (kBytesB (bs := [u8 ((ri / 256) % 256), u8 ((ri % 256))]) (.cons (isB8 (isX rfl) (by omega) (by omega)) (.cons (isB8 (isX rfl) (by omega) (by omega)) .nil)) (denX rfl)) ?_
  refine hcons (kCat (isX rfl) (isX rfl) (denX rfl) (by first | rfl | (simp only [List.append_assoc, List.cons_append, List.nil_append, List.append_nil]; done)) (by first | omega | (simp only [List.length_append, List.length_cons, List.length_nil, List.length_take, List.length_drop, List.length_replicate, Int.natCast_add] at *; omega))) ?_
  refine hcons (kQuo (isX rfl) (isZ (m := 256) rfl) (denX rfl) (by omega) (by omega) rfl (fI64 (by omega) (by omega))) ?_
  refine hcons (kConv8 (isX rfl) tu5 (denX rfl) rfl) ?_
  refine hcons (kRem (isX rfl) (isZ (m := 256) rfl) (denX rfl) (by omega) (by omega) rfl) ?_
  refine hcons (kConvF (isX rfl) tu5 (denX rfl) (fU8 (by omega) (by omega))) ?_
  refine hcons (kBytesB (bs := [u8 ((((c.length : Int)) / 256) % 256), u8 ((((c.length : Int)) % 256))]) (.cons (isB8 (isX rfl) (by omega) (by omega)) (.cons (isB8 (isX rfl) (by omega) (by omega)) .nil)) (denX rfl)) ?_
  refine hcons (kCat (isX rfl) (isX rfl) (denX rfl) (by first | rfl | (simp only [List.append_assoc, List.cons_append, List.nil_append, List.append_nil]; done)) (by first | omega | (simp only [List.length_append, List.length_cons, List.length_nil, List.length_take, List.length_drop, List.length_replicate, Int.natCast_add] at *; omega))) ?_
  refine hcons (kBytesB (bs := [u8 (rp % 256), u8 0]) (.cons (isB8 (isX rfl) (by omega) (by omega)) (.cons (isB8 (isZ (m := 0) rfl) (by omega) (by omega)) .nil)) (denX rfl)) ?_
  refine hcons (kCat (isX rfl) (isX rfl) (denX rfl) (by first | rfl | (simp only [List.append_assoc, List.cons_append, List.nil_append, List.append_nil]; done)) (by first | omega | (simp only [List.length_append, List.length_cons, List.length_nil, List.length_take, List.length_drop, List.length_replicate, Int.natCast_add] at *; omega))) ?_
  refine hcons (kCat (isX rfl) (isX rfl) (denX rfl) (by first | rfl | (simp only [List.append_assoc, List.cons_append, List.nil_append, List.append_nil]; done)) (by first | omega | (simp only [List.length_append, List.length_cons, List.length_nil, List.length_take, List.length_drop, List.length_replicate, Int.natCast_add] at *; omega))) ?_
  refine hcons (kZer (isX rfl) (by omega) (by omega) (denX rfl)) ?_
  refine hcons (kCat (isX rfl) (isX rfl) (denX rfl) (by first | rfl | (simp only [List.append_assoc, List.cons_append, List.nil_append, List.append_nil]; done)) (by first | omega | (simp only [List.length_append, List.length_cons, List.length_nil, List.length_take, List.length_drop, List.length_replicate, Int.natCast_add] at *; omega))) ?_
  refine hcons (kEqS (isX rfl) (isX rfl) (by first | exact decide_eq_true rfl | exact decide_eq_true ‹_› | exact decide_eq_false ‹_›)) ?_
  refine hcons (kEqS (isX rfl) (isX rfl) (decide_eq_true rfl)) ?_
  refine hcons (kMax (isX rfl) (isZ (m := 0) rfl) (denX rfl) rfl) ?_
  refine hcons (kNeg (isX rfl) (denX rfl) (by omega) (fI64 (by omega) (by omega))) ?_
  refine hcons (kAndG 3 8 rfl (by decide) (isX rfl) (isZ (m := 7) rfl) (denX rfl) (fI64 (by omega) (by omega)) rfl rfl (fI64 (by omega) (by omega))) ?_
  refine hcons (kMax (isZ (m := 0) rfl) (isX rfl) (denX rfl) rfl) ?_
  refine hcons (kRem (isX rfl) (isZ (m := 8) rfl) (denX rfl) (by omega) (by omega) rfl) ?_
  refine hcons (kSub (isZ (m := 8) rfl) (isX rfl) (denX rfl) (by omega) (fI64 (by omega) (by omega))) ?_
  refine hcons (kRem (isX rfl) (isZ (m := 8) rfl) (denX rfl) (by omega) (by omega) rfl) ?_
  refine hcons (kEqI (isX rfl) (isX rfl) (decide_eq_true (by omega))) ?_
  exact hnil
theorem path5 (rt : Int) (ri : Int) (c : List UInt8) (rp : Int) (s : List UInt8) (n : Int) (b0 : -9223372036854775808 ≤ rt) (b1 : rt ≤ 9223372036854775807) (b2 : -9223372036854775808 ≤ ri) (b3 : ri ≤ 9223372036854775807) (b4 : c.length ≤ 9223372036854775807) (b5 : -9223372036854775808 ≤ rp) (b6 : rp ≤ 9223372036854775807) (b7 : s.length ≤ 9223372036854775807) (b8 : -9223372036854775808 ≤ n) (b9 : n ≤ 9223372036854775807) (h0 : ¬ (3000 < (s.length : Int))) (h1 : ¬ (70000 < (c.length : Int))) (h2 : ¬ ((s.length : Int) = 0)) (h3 : bt s 0 = 1) (h4 : ¬ ((s.length : Int) < 8)) (h5 : (s.length : Int) < (bt s 4) * 256 + (bt s 5) + (bt s 6) + 8) (h8 : 1 ≤ rt) (h9 : rt ≤ 255) (h10 : 0 ≤ ri) (h11 : ri ≤ 65535) (h12 : (c.length : Int) ≤ 65535) (h13 : 0 ≤ rp) (h14 : rp ≤ 255) (w : World) (hl : laidE w) : Calls Tryd.prog 5 #[.agg #[.int .i64 rt, .int .i64 ri, St' c, .int .i64 rp], St' s, .int .i64 n] w fun e w' => e = .returned (.bool true) ∧ Go.AX.Below w.heap.size w w' := by
  obtain ⟨fi, hfi, hb⟩ : ∃ fi, tabk.fn.get 5 = some fi ∧ fi.body.isSome = true := ⟨_, rfl, by kernel_rfl⟩
  exact runP (tb := tab5) ((tabkOk (nuL (nu5 rt ri c rp s n)) (one5 rt ri c rp s n)).hyps (hyOk5 rt ri c rp s n b0 b1 b2 b3 b4 b5 b6 b7 b8 b9 h0 h1 h2 h3 h4 h5 h8 h9 h10 h11 h12 h13 h14)) rfl hfi hb (fun e => run5 e ) (args := [.agg #[.int .i64 rt, .int .i64 ri, St' c, .int .i64 rp], St' s, .int .i64 n]) (by simp only [RelL, Rel]; exact ⟨_, _, rfl, ⟨_, rfl, ⟨_, _, rfl, rfl, ⟨_, _, rfl, rfl, ⟨_, _, rfl, rfl, ⟨_, _, rfl, rfl, rfl⟩⟩⟩⟩⟩, ⟨_, _, rfl, rfl, ⟨_, _, rfl, rfl, rfl⟩⟩⟩) w hl
def hy6 : List (HK × AV) := [(.len (.x 4), .x 6),
  (.bin .gtr (.x 6) (.i .i64 (.ofNat 3000)), .b true)]
noncomputable def tab6 : Tab := { tabk with hyp := hy6 }
theorem run6 (e : Nat) : okB (call tab6 9000 5 [.ag [.x 0, .x 1, .x 2, .x 3], .x 4, .x 5] ⟨H0 e , 7, 0, 0⟩) = true := by kernel_rfl
def nu6 (rt : Int) (ri : Int) (c : List UInt8) (rp : Int) (s : List UInt8) (n : Int) : List Value := [.int .i64 (rt),
  .int .i64 (ri),
  St' c,
  .int .i64 (rp),
  St' s,
  .int .i64 (n),
  .int .i64 ((s.length : Int))]
theorem one6 (rt : Int) (ri : Int) (c : List UInt8) (rp : Int) (s : List UInt8) (n : Int) : ∀ j, (nuL (nu6 rt ri c rp s n) j).oneCell' = true := nuL_one (l := nu6 rt ri c rp s n) rfl
set_option maxHeartbeats 2000000 in
theorem hyOk6 (rt : Int) (ri : Int) (c : List UInt8) (rp : Int) (s : List UInt8) (n : Int) (b0 : -9223372036854775808 ≤ rt) (b1 : rt ≤ 9223372036854775807) (b2 : -9223372036854775808 ≤ ri) (b3 : ri ≤ 9223372036854775807) (b4 : c.length ≤ 9223372036854775807) (b5 : -9223372036854775808 ≤ rp) (b6 : rp ≤ 9223372036854775807) (b7 : s.length ≤ 9223372036854775807) (b8 : -9223372036854775808 ≤ n) (b9 : n ≤ 9223372036854775807) (h0 : 3000 < (s.length : Int)) : ∀ k r, (k, r) ∈ hy6 → HOk (cx (nuL (nu6 rt ri c rp s n)) (one6 rt ri c rp s n) 1 laidE laidE_stab) k r := by
  unfold hy6
  refine hcons (kLenE (isX rfl) (denX rfl) (by first | omega | (simp only [List.length_append, List.length_cons, List.length_nil, List.length_take, List.length_drop, List.length_replicate, Int.natCast_add] at *; omega))) ?_
  refine hcons (kGt (isX rfl) (isZ (m := 3000) rfl) (decide_eq_true (by omega))) ?_
  exact hnil
theorem path6 (rt : Int) (ri : Int) (c : List UInt8) (rp : Int) (s : List UInt8) (n : Int) (b0 : -9223372036854775808 ≤ rt) (b1 : rt ≤ 9223372036854775807) (b2 : -9223372036854775808 ≤ ri) (b3 : ri ≤ 9223372036854775807) (b4 : c.length ≤ 9223372036854775807) (b5 : -9223372036854775808 ≤ rp) (b6 : rp ≤ 9223372036854775807) (b7 : s.length ≤ 9223372036854775807) (b8 : -9223372036854775808 ≤ n) (b9 : n ≤ 9223372036854775807) (h0 : 3000 < (s.length : Int)) (w : World) (hl : laidE w) : Calls Tryd.prog 5 #[.agg #[.int .i64 rt, .int .i64 ri, St' c, .int .i64 rp], St' s, .int .i64 n] w fun e w' => e = .returned (.bool true) ∧ Go.AX.Below w.heap.size w w' := by
  obtain ⟨fi, hfi, hb⟩ : ∃ fi, tabk.fn.get 5 = some fi ∧ fi.body.isSome = true := ⟨_, rfl, by kernel_rfl⟩
  exact runP (tb := tab6) ((tabkOk (nuL (nu6 rt ri c rp s n)) (one6 rt ri c rp s n)).hyps (hyOk6 rt ri c rp s n b0 b1 b2 b3 b4 b5 b6 b7 b8 b9 h0)) rfl hfi hb (fun e => run6 e ) (args := [.agg #[.int .i64 rt, .int .i64 ri, St' c, .int .i64 rp], St' s, .int .i64 n]) (by simp only [RelL, Rel]; exact ⟨_, _, rfl, ⟨_, rfl, ⟨_, _, rfl, rfl, ⟨_, _, rfl, rfl, ⟨_, _, rfl, rfl, ⟨_, _, rfl, rfl, rfl⟩⟩⟩⟩⟩, ⟨_, _, rfl, rfl, ⟨_, _, rfl, rfl, rfl⟩⟩⟩) w hl
def hy7 : List (HK × AV) := [(.len (.x 4), .x 6),
  (.bin .gtr (.x 6) (.i .i64 (.ofNat 3000)), .b false),
  (.len (.x 2), .x 7),
  (.bin .gtr (.x 7) (.i .i64 (.ofNat 70000)), .b false),
  (.bin .neq (.x 4) (.s 0 0), .b false),
  (.bin .lss (.x 6) (.i .i64 (.ofNat 8)), .b true),
  (.bin .gtr (.x 6) (.i .i64 (.ofNat 0)), .b false),
  (.bin .geq (.x 0) (.i .i64 (.ofNat 1)), .b false),
  (.bin .eql (.x 4) (.x 4), .b true),
  (.mm true (.x 5) (.i .i64 (.ofNat 0)), .x 8),
  (.un .neg (.x 8), .x 9),
  (.bin .and (.x 9) (.i .i64 (.ofNat 7)), .x 10),
  (.mm true (.i .i64 (.ofNat 0)) (.x 5), .x 11),
  (.bin .rem (.x 11) (.i .i64 (.ofNat 8)), .x 12),
  (.bin .sub (.i .i64 (.ofNat 8)) (.x 12), .x 13),
  (.bin .rem (.x 13) (.i .i64 (.ofNat 8)), .x 14),
  (.bin .eql (.x 10) (.x 14), .b true)]
noncomputable def tab7 : Tab := { tabk with hyp := hy7 }
theorem run7 (e : Nat) : okB (call tab7 9000 5 [.ag [.x 0, .x 1, .x 2, .x 3], .x 4, .x 5] ⟨H0 e , 7, 0, 0⟩) = true := by kernel_rfl
def nu7 (rt : Int) (ri : Int) (c : List UInt8) (rp : Int) (s : List UInt8) (n : Int) : List Value := [.int .i64 (rt),
  .int .i64 (ri),
  St' c,
  .int .i64 (rp),
  St' s,
  .int .i64 (n),
  .int .i64 ((s.length : Int)),
  .int .i64 ((c.length : Int)),
  .int .i64 (max n 0),
  .int .i64 (-((max n 0))),
  .int .i64 ((-((max n 0))) % 8),
  .int .i64 (max 0 n),
  .int .i64 ((max 0 n) % 8),
  .int .i64 (8 - ((max 0 n) % 8)),
  .int .i64 ((8 - ((max 0 n) % 8)) % 8)]
theorem one7 (rt : Int) (ri : Int) (c : List UInt8) (rp : Int) (s : List UInt8) (n : Int) : ∀ j, (nuL (nu7 rt ri c rp s n) j).oneCell' = true := nuL_one (l := nu7 rt ri c rp s n) rfl
set_option maxHeartbeats 2000000 in
theorem hyOk7 (rt : Int) (ri : Int) (c : List UInt8) (rp : Int) (s : List UInt8) (n : Int) (b0 : -9223372036854775808 ≤ rt) (b1 : rt ≤ 9223372036854775807) (b2 : -9223372036854775808 ≤ ri) (b3 : ri ≤ 9223372036854775807) (b4 : c.length ≤ 9223372036854775807) (b5 : -9223372036854775808 ≤ rp) (b6 : rp ≤ 9223372036854775807) (b7 : s.length ≤ 9223372036854775807) (b8 : -9223372036854775808 ≤ n) (b9 : n ≤ 9223372036854775807) (h0 : ¬ (3000 < (s.length : Int))) (h1 : ¬ (70000 < (c.length : Int))) (h2 : (s.length : Int) = 0) (h5 : ¬ (1 ≤ rt)) : ∀ k r, (k, r) ∈ hy7 → HOk (cx (nuL (nu7 rt ri c rp s n)) (one7 rt ri c rp s n) 1 laidE laidE_stab) k r := by
  unfold hy7
  refine hcons (kLenE (isX rfl) (denX rfl) (by first | omega | (simp only [List.length_append, List.length_cons, List.length_nil, List.length_take, List.length_drop, List.length_replicate, Int.natCast_add] at *; omega))) ?_
  refine hcons (kGt (isX rfl) (isZ (m := 3000) rfl) (decide_eq_false (by omega))) ?_
  refine hcons (kLenE (isX rfl) (denX rfl) (by first | omega | (simp only [List.length_append, List.length_cons, List.length_nil, List.length_take, List.length_drop, List.length_replicate, Int.natCast_add] at *; omega))) ?_
  refine hcons (kGt (isX rfl) (isZ (m := 70000) rfl) (decide_eq_false (by omega))) ?_
  refine hcons (kNeS (isX rfl) (isSx (l := ([] : List UInt8)) 0 0 rfl) (bnF (by first | exact nilT (by first | omega | (simp only [List.length_append, List.length_cons, List.length_nil, List.length_take, List.length_drop, List.length_replicate, Int.natCast_add] at *; omega)) | exact nilF (by first | omega | (simp only [List.length_append, List.length_cons, List.length_nil, List.length_take, List.length_drop, List.length_replicate, Int.natCast_add] at *; omega)) | exact nilT' (by first | omega | (simp only [List.length_append, List.length_cons, List.length_nil, List.length_take, List.length_drop, List.length_replicate, Int.natCast_add] at *; omega)) | exact nilF' (by first | omega | (simp only [List.length_append, List.length_cons, List.length_nil, List.length_take, List.length_drop, List.length_replicate, Int.natCast_add] at *; omega))))) ?_
  refine hcons (kLt (isX rfl) (isZ (m := 8) rfl) (decide_eq_true (by omega))) ?_
  refine hcons (kGt (isX rfl) (isZ (m := 0) rfl) (decide_eq_false (by omega))) ?_
  refine hcons (kGe (isX rfl) (isZ (m := 1) rfl) (decide_eq_false (by omega))) ?_
  refine hcons (kEqS (isX rfl) (isX rfl) (decide_eq_true rfl)) ?_
  refine hcons (kMax (isX rfl) (isZ (m := 0) rfl) (denX rfl) rfl) ?_
  refine hcons (kNeg (isX rfl) (denX rfl) (by omega) (fI64 (by omega) (by omega))) ?_
  refine hcons (kAndG 3 8 rfl (by decide) (isX rfl) (isZ (m := 7) rfl) (denX rfl) (fI64 (by omega) (by omega)) rfl rfl (fI64 (by omega) (by omega))) ?_
  refine hcons (kMax (isZ (m := 0) rfl) (isX rfl) (denX rfl) rfl) ?_
  refine hcons (kRem (isX rfl) (isZ (m := 8) rfl) (denX rfl) (by omega) (by omega) rfl) ?_
  refine hcons (kSub (isZ (m := 8) rfl) (isX rfl) (denX rfl) (by omega) (fI64 (by omega) (by omega))) ?_
  refine hcons (kRem (isX rfl) (isZ (m := 8) rfl) (denX rfl) (by omega) (by omega) rfl) ?_
  refine hcons (kEqI (isX rfl) (isX rfl) (decide_eq_true (by omega))) ?_
  exact hnil
theorem path7 (rt : Int) (ri : Int) (c : List UInt8) (rp : Int) (s : List UInt8) (n : Int) (b0 : -9223372036854775808 ≤ rt) (b1 : rt ≤ 9223372036854775807) (b2 : -9223372036854775808 ≤ ri) (b3 : ri ≤ 9223372036854775807) (b4 : c.length ≤ 9223372036854775807) (b5 : -9223372036854775808 ≤ rp) (b6 : rp ≤ 9223372036854775807) (b7 : s.length ≤ 9223372036854775807) (b8 : -9223372036854775808 ≤ n) (b9 : n ≤ 9223372036854775807) (h0 : ¬ (3000 < (s.length : Int))) (h1 : ¬ (70000 < (c.length : Int))) (h2 : (s.length : Int) = 0) (h5 : ¬ (1 ≤ rt)) (w : World) (hl : laidE w) : Calls Tryd.prog 5 #[.agg #[.int .i64 rt, .int .i64 ri, St' c, .int .i64 rp], St' s, .int .i64 n] w fun e w' => e = .returned (.bool true) ∧ Go.AX.Below w.heap.size w w' := by
  obtain ⟨fi, hfi, hb⟩ : ∃ fi, tabk.fn.get 5 = some fi ∧ fi.body.isSome = true := ⟨_, rfl, by kernel_rfl⟩
  exact runP (tb := tab7) ((tabkOk (nuL (nu7 rt ri c rp s n)) (one7 rt ri c rp s n)).hyps (hyOk7 rt ri c rp s n b0 b1 b2 b3 b4 b5 b6 b7 b8 b9 h0 h1 h2 h5)) rfl hfi hb (fun e => run7 e ) (args := [.agg #[.int .i64 rt, .int .i64 ri, St' c, .int .i64 rp], St' s, .int .i64 n]) (by simp only [RelL, Rel]; exact ⟨_, _, rfl, ⟨_, rfl, ⟨_, _, rfl, rfl, ⟨_, _, rfl, rfl, ⟨_, _, rfl, rfl, ⟨_, _, rfl, rfl, rfl⟩⟩⟩⟩⟩, ⟨_, _, rfl, rfl, ⟨_, _, rfl, rfl, rfl⟩⟩⟩) w hl
def hy8 : List (HK × AV) := [(.len (.x 4), .x 6),
  (.bin .gtr (.x 6) (.i .i64 (.ofNat 3000)), .b false),
  (.len (.x 2), .x 7),
  (.bin .gtr (.x 7) (.i .i64 (.ofNat 70000)), .b false),
  (.bin .neq (.x 4) (.s 0 0), .b true),
  (.idx (.x 4) (.i .i64 (.ofNat 0)), .x 8),
  (.bin .neq (.x 8) (.i .u8 (.ofNat 1)), .b true),
  (.bin .gtr (.x 6) (.i .i64 (.ofNat 0)), .b true),
  (.bin .geq (.x 0) (.i .i64 (.ofNat 1)), .b false),
  (.bin .eql (.x 4) (.x 4), .b true),
  (.mm true (.x 5) (.i .i64 (.ofNat 0)), .x 9),
  (.un .neg (.x 9), .x 10),
  (.bin .and (.x 10) (.i .i64 (.ofNat 7)), .x 11),
  (.mm true (.i .i64 (.ofNat 0)) (.x 5), .x 12),
  (.bin .rem (.x 12) (.i .i64 (.ofNat 8)), .x 13),
  (.bin .sub (.i .i64 (.ofNat 8)) (.x 13), .x 14),
  (.bin .rem (.x 14) (.i .i64 (.ofNat 8)), .x 15),
  (.bin .eql (.x 11) (.x 15), .b true)]
noncomputable def tab8 : Tab := { tabk with hyp := hy8 }
theorem run8 (e : Nat) : okB (call tab8 9000 5 [.ag [.x 0, .x 1, .x 2, .x 3], .x 4, .x 5] ⟨H0 e , 7, 0, 0⟩) = true := by kernel_rfl
def nu8 (rt : Int) (ri : Int) (c : List UInt8) (rp : Int) (s : List UInt8) (n : Int) : List Value := [.int .i64 (rt),
  .int .i64 (ri),
  St' c,
  .int .i64 (rp),
  St' s,
  .int .i64 (n),
  .int .i64 ((s.length : Int)),
  .int .i64 ((c.length : Int)),
  .int .u8 (bt s 0),
  .int .i64 (max n 0),
  .int .i64 (-((max n 0))),
  .int .i64 ((-((max n 0))) % 8),
  .int .i64 (max 0 n),
  .int .i64 ((max 0 n) % 8),
  .int .i64 (8 - ((max 0 n) % 8)),
  .int .i64 ((8 - ((max 0 n) % 8)) % 8)]
theorem one8 (rt : Int) (ri : Int) (c : List UInt8) (rp : Int) (s : List UInt8) (n : Int) : ∀ j, (nuL (nu8 rt ri c rp s n) j).oneCell' = true := nuL_one (l := nu8 rt ri c rp s n) rfl
set_option maxHeartbeats 2000000 in
theorem hyOk8 (rt : Int) (ri : Int) (c : List UInt8) (rp : Int) (s : List UInt8) (n : Int) (b0 : -9223372036854775808 ≤ rt) (b1 : rt ≤ 9223372036854775807) (b2 : -9223372036854775808 ≤ ri) (b3 : ri ≤ 9223372036854775807) (b4 : c.length ≤ 9223372036854775807) (b5 : -9223372036854775808 ≤ rp) (b6 : rp ≤ 9223372036854775807) (b7 : s.length ≤ 9223372036854775807) (b8 : -9223372036854775808 ≤ n) (b9 : n ≤ 9223372036854775807) (h0 : ¬ (3000 < (s.length : Int))) (h1 : ¬ (70000 < (c.length : Int))) (h2 : ¬ ((s.length : Int) = 0)) (h3 : ¬ (bt s 0 = 1)) (h5 : ¬ (1 ≤ rt)) : ∀ k r, (k, r) ∈ hy8 → HOk (cx (nuL (nu8 rt ri c rp s n)) (one8 rt ri c rp s n) 1 laidE laidE_stab) k r := by
  have := bt_lo s 0; have := bt_hi s 0
  unfold hy8
  refine hcons (kLenE (isX rfl) (denX rfl) (by first | omega | (simp only [List.length_append, List.length_cons, List.length_nil, List.length_take, List.length_drop, List.length_replicate, Int.natCast_add] at *; omega))) ?_
  refine hcons (kGt (isX rfl) (isZ (m := 3000) rfl) (decide_eq_false (by omega))) ?_
  refine hcons (kLenE (isX rfl) (denX rfl) (by first | omega | (simp only [List.length_append, List.length_cons, List.length_nil, List.length_take, List.length_drop, List.length_replicate, Int.natCast_add] at *; omega))) ?_
  refine hcons (kGt (isX rfl) (isZ (m := 70000) rfl) (decide_eq_false (by omega))) ?_
  refine hcons (kNeS (isX rfl) (isSx (l := ([] : List UInt8)) 0 0 rfl) (bnT (by first | exact nilT (by first | omega | (simp only [List.length_append, List.length_cons, List.length_nil, List.length_take, List.length_drop, List.length_replicate, Int.natCast_add] at *; omega)) | exact nilF (by first | omega | (simp only [List.length_append, List.length_cons, List.length_nil, List.length_take, List.length_drop, List.length_replicate, Int.natCast_add] at *; omega)) | exact nilT' (by first | omega | (simp only [List.length_append, List.length_cons, List.length_nil, List.length_take, List.length_drop, List.length_replicate, Int.natCast_add] at *; omega)) | exact nilF' (by first | omega | (simp only [List.length_append, List.length_cons, List.length_nil, List.length_take, List.length_drop, List.length_replicate, Int.natCast_add] at *; omega))))) ?_
  refine hcons (kIdxE (i := 0) (isX rfl) (isZ (m := 0) rfl) (denX rfl) rfl (by first | omega | (simp only [List.length_append, List.length_cons, List.length_nil, List.length_take, List.length_drop, List.length_replicate, Int.natCast_add] at *; omega)) rfl) ?_
  refine hcons (kNeI (isX rfl) (isZ (m := 1) rfl) (neT (by omega))) ?_
  refine hcons (kGt (isX rfl) (isZ (m := 0) rfl) (decide_eq_true (by omega))) ?_
  refine hcons (kGe (isX rfl) (isZ (m := 1) rfl) (decide_eq_false (by omega))) ?_
  refine hcons (kEqS (isX rfl) (isX rfl) (decide_eq_true rfl)) ?_
  refine hcons (kMax (isX rfl) (isZ (m := 0) rfl) (denX rfl) rfl) ?_
  refine hcons (kNeg (isX rfl) (denX rfl) (by omega) (fI64 (by omega) (by omega))) ?_
  refine hcons (kAndG 3 8 rfl (by decide) (isX rfl) (isZ (m := 7) rfl) (denX rfl) (fI64 (by omega) (by omega)) rfl rfl (fI64 (by omega) (by omega))) ?_
  refine hcons (kMax (isZ (m := 0) rfl) (isX rfl) (denX rfl) rfl) ?_
  refine hcons (kRem (isX rfl) (isZ (m := 8) rfl) (denX rfl) (by omega) (by omega) rfl) ?_
  refine hcons (kSub (isZ (m := 8) rfl) (isX rfl) (denX rfl) (by omega) (fI64 (by omega) (by omega))) ?_
  refine hcons (kRem (isX rfl) (isZ (m := 8) rfl) (denX rfl) (by omega) (by omega) rfl) ?_
  refine hcons (kEqI (isX rfl) (isX rfl) (decide_eq_true (by omega))) ?_
  exact hnil
theorem path8 (rt : Int) (ri : Int) (c : List UInt8) (rp : Int) (s : List UInt8) (n : Int) (b0 : -9223372036854775808 ≤ rt) (b1 : rt ≤ 9223372036854775807) (b2 : -9223372036854775808 ≤ ri) (b3 : ri ≤ 9223372036854775807) (b4 : c.length ≤ 9223372036854775807) (b5 : -9223372036854775808 ≤ rp) (b6 : rp ≤ 9223372036854775807) (b7 : s.length ≤ 9223372036854775807) (b8 : -9223372036854775808 ≤ n) (b9 : n ≤ 9223372036854775807) (h0 : ¬ (3000 < (s.length : Int))) (h1 : ¬ (70000 < (c.length : Int))) (h2 : ¬ ((s.length : Int) = 0)) (h3 : ¬ (bt s 0 = 1)) (h5 : ¬ (1 ≤ rt)) (w : World) (hl : laidE w) : Calls Tryd.prog 5 #[.agg #[.int .i64 rt, .int .i64 ri, St' c, .int .i64 rp], St' s, .int .i64 n] w fun e w' => e = .returned (.bool true) ∧ Go.AX.Below w.heap.size w w' := by
  obtain ⟨fi, hfi, hb⟩ : ∃ fi, tabk.fn.get 5 = some fi ∧ fi.body.isSome = true := ⟨_, rfl, by kernel_rfl⟩
  exact runP (tb := tab8) ((tabkOk (nuL (nu8 rt ri c rp s n)) (one8 rt ri c rp s n)).hyps (hyOk8 rt ri c rp s n b0 b1 b2 b3 b4 b5 b6 b7 b8 b9 h0 h1 h2 h3 h5)) rfl hfi hb (fun e => run8 e ) (args := [.agg #[.int .i64 rt, .int .i64 ri, St' c, .int .i64 rp], St' s, .int .i64 n]) (by simp only [RelL, Rel]; exact ⟨_, _, rfl, ⟨_, rfl, ⟨_, _, rfl, rfl, ⟨_, _, rfl, rfl, ⟨_, _, rfl, rfl, ⟨_, _, rfl, rfl, rfl⟩⟩⟩⟩⟩, ⟨_, _, rfl, rfl, ⟨_, _, rfl, rfl, rfl⟩⟩⟩) w hl
def hy9 : List (HK × AV) := [(.len (.x 4), .x 6),
  (.bin .gtr (.x 6) (.i .i64 (.ofNat 3000)), .b false),
  (.len (.x 2), .x 7),
  (.bin .gtr (.x 7) (.i .i64 (.ofNat 70000)), .b false),
  (.bin .neq (.x 4) (.s 0 0), .b true),
  (.idx (.x 4) (.i .i64 (.ofNat 0)), .x 8),
  (.bin .neq (.x 8) (.i .u8 (.ofNat 1)), .b false),
  (.bin .lss (.x 6) (.i .i64 (.ofNat 8)), .b true),
  (.bin .gtr (.x 6) (.i .i64 (.ofNat 0)), .b true),
  (.bin .geq (.x 0) (.i .i64 (.ofNat 1)), .b false),
  (.bin .eql (.x 4) (.x 4), .b true),
  (.mm true (.x 5) (.i .i64 (.ofNat 0)), .x 9),
  (.un .neg (.x 9), .x 10),
  (.bin .and (.x 10) (.i .i64 (.ofNat 7)), .x 11),
  (.mm true (.i .i64 (.ofNat 0)) (.x 5), .x 12),
  (.bin .rem (.x 12) (.i .i64 (.ofNat 8)), .x 13),
  (.bin .sub (.i .i64 (.ofNat 8)) (.x 13), .x 14),
  (.bin .rem (.x 14) (.i .i64 (.ofNat 8)), .x 15),
  (.bin .eql (.x 11) (.x 15), .b true)]
noncomputable def tab9 : Tab := { tabk with hyp := hy9 }
theorem run9 (e : Nat) : okB (call tab9 9000 5 [.ag [.x 0, .x 1, .x 2, .x 3], .x 4, .x 5] ⟨H0 e , 7, 0, 0⟩) = true := by kernel_rfl
def nu9 (rt : Int) (ri : Int) (c : List UInt8) (rp : Int) (s : List UInt8) (n : Int) : List Value := [.int .i64 (rt),
  .int .i64 (ri),
  St' c,
  .int .i64 (rp),
  St' s,
  .int .i64 (n),
  .int .i64 ((s.length : Int)),
  .int .i64 ((c.length : Int)),
  .int .u8 (bt s 0),
  .int .i64 (max n 0),
  .int .i64 (-((max n 0))),
  .int .i64 ((-((max n 0))) % 8),
  .int .i64 (max 0 n),
  .int .i64 ((max 0 n) % 8),
  .int .i64 (8 - ((max 0 n) % 8)),
  .int .i64 ((8 - ((max 0 n) % 8)) % 8)]
theorem one9 (rt : Int) (ri : Int) (c : List UInt8) (rp : Int) (s : List UInt8) (n : Int) : ∀ j, (nuL (nu9 rt ri c rp s n) j).oneCell' = true := nuL_one (l := nu9 rt ri c rp s n) rfl
set_option maxHeartbeats 2000000 in
theorem hyOk9 (rt : Int) (ri : Int) (c : List UInt8) (rp : Int) (s : List UInt8) (n : Int) (b0 : -9223372036854775808 ≤ rt) (b1 : rt ≤ 9223372036854775807) (b2 : -9223372036854775808 ≤ ri) (b3 : ri ≤ 9223372036854775807) (b4 : c.length ≤ 9223372036854775807) (b5 : -9223372036854775808 ≤ rp) (b6 : rp ≤ 9223372036854775807) (b7 : s.length ≤ 9223372036854775807) (b8 : -9223372036854775808 ≤ n) (b9 : n ≤ 9223372036854775807) (h0 : ¬ (3000 < (s.length : Int))) (h1 : ¬ (70000 < (c.length : Int))) (h2 : ¬ ((s.length : Int) = 0)) (h3 : bt s 0 = 1) (h4 : (s.length : Int) < 8) (h6 : ¬ (1 ≤ rt)) : ∀ k r, (k, r) ∈ hy9 → HOk (cx (nuL (nu9 rt ri c rp s n)) (one9 rt ri c rp s n) 1 laidE laidE_stab) k r := by
  have := bt_lo s 0; have := bt_hi s 0
  unfold hy9
  refine hcons (kLenE (isX rfl) (denX rfl) (by first | omega | (simp only [List.length_append, List.length_cons, List.length_nil, List.length_take, List.length_drop, List.length_replicate, Int.natCast_add] at *; omega))) ?_
  refine hcons (kGt (isX rfl) (isZ (m := 3000) rfl) (decide_eq_false (by omega))) ?_
  refine hcons (kLenE (isX rfl) (denX rfl) (by first | omega | (simp only [List.length_append, List.length_cons, List.length_nil, List.length_take, List.length_drop, List.length_replicate, Int.natCast_add] at *; omega))) ?_
  refine hcons (kGt (isX rfl) (isZ (m := 70000) rfl) (decide_eq_false (by omega))) ?_
  refine hcons (kNeS (isX rfl) (isSx (l := ([] : List UInt8)) 0 0 rfl) (bnT (by first | exact nilT (by first | omega | (simp only [List.length_append, List.length_cons, List.length_nil, List.length_take, List.length_drop, List.length_replicate, Int.natCast_add] at *; omega)) | exact nilF (by first | omega | (simp only [List.length_append, List.length_cons, List.length_nil, List.length_take, List.length_drop, List.length_replicate, Int.natCast_add] at *; omega)) | exact nilT' (by first | omega | (simp only [List.length_append, List.length_cons, List.length_nil, List.length_take, List.length_drop, List.length_replicate, Int.natCast_add] at *; omega)) | exact nilF' (by first | omega | (simp only [List.length_append, List.length_cons, List.length_nil, List.length_take, List.length_drop, List.length_replicate, Int.natCast_add] at *; omega))))) ?_
  refine hcons (kIdxE (i := 0) (isX rfl) (isZ (m := 0) rfl) (denX rfl) rfl (by first | omega | (simp only [List.length_append, List.length_cons, List.length_nil, List.length_take, List.length_drop, List.length_replicate, Int.natCast_add] at *; omega)) rfl) ?_
  refine hcons (kNeI (isX rfl) (isZ (m := 1) rfl) (neF (by omega))) ?_
  refine hcons (kLt (isX rfl) (isZ (m := 8) rfl) (decide_eq_true (by omega))) ?_
  refine hcons (kGt (isX rfl) (isZ (m := 0) rfl) (decide_eq_true (by omega))) ?_
  refine hcons (kGe (isX rfl) (isZ (m := 1) rfl) (decide_eq_false (by omega))) ?_
  refine hcons (kEqS (isX rfl) (isX rfl) (decide_eq_true rfl)) ?_
  refine hcons (kMax (isX rfl) (isZ (m := 0) rfl) (denX rfl) rfl) ?_
  refine hcons (kNeg (isX rfl) (denX rfl) (by omega) (fI64 (by omega) (by omega))) ?_
  refine hcons (kAndG 3 8 rfl (by decide) (isX rfl) (isZ (m := 7) rfl) (denX rfl) (fI64 (by omega) (by omega)) rfl rfl (fI64 (by omega) (by omega))) ?_
  refine hcons (kMax (isZ (m := 0) rfl) (isX rfl) (denX rfl) rfl) ?_
  refine hcons (kRem (isX rfl) (isZ (m := 8) rfl) (denX rfl) (by omega) (by omega) rfl) ?_
  refine hcons (kSub (isZ (m := 8) rfl) (isX rfl) (denX rfl) (by omega) (fI64 (by omega) (by omega))) ?_
  refine hcons (kRem (isX rfl) (isZ (m := 8) rfl) (denX rfl) (by omega) (by omega) rfl) ?_
  refine hcons (kEqI (isX rfl) (isX rfl) (decide_eq_true (by omega))) ?_
  exact hnil
theorem path9 (rt : Int) (ri : Int) (c : List UInt8) (rp : Int) (s : List UInt8) (n : Int) (b0 : -9223372036854775808 ≤ rt) (b1 : rt ≤ 9223372036854775807) (b2 : -9223372036854775808 ≤ ri) (b3 : ri ≤ 9223372036854775807) (b4 : c.length ≤ 9223372036854775807) (b5 : -9223372036854775808 ≤ rp) (b6 : rp ≤ 9223372036854775807) (b7 : s.length ≤ 9223372036854775807) (b8 : -9223372036854775808 ≤ n) (b9 : n ≤ 9223372036854775807) (h0 : ¬ (3000 < (s.length : Int))) (h1 : ¬ (70000 < (c.length : Int))) (h2 : ¬ ((s.length : Int) = 0)) (h3 : bt s 0 = 1) (h4 : (s.length : Int) < 8) (h6 : ¬ (1 ≤ rt)) (w : World) (hl : laidE w) : Calls Tryd.prog 5 #[.agg #[.int .i64 rt, .int .i64 ri, St' c, .int .i64 rp], St' s, .int .i64 n] w fun e w' => e = .returned (.bool true) ∧ Go.AX.Below w.heap.size w w' := by
  obtain ⟨fi, hfi, hb⟩ : ∃ fi, tabk.fn.get 5 = some fi ∧ fi.body.isSome = true := ⟨_, rfl, by kernel_rfl⟩
  exact runP (tb := tab9) ((tabkOk (nuL (nu9 rt ri c rp s n)) (one9 rt ri c rp s n)).hyps (hyOk9 rt ri c rp s n b0 b1 b2 b3 b4 b5 b6 b7 b8 b9 h0 h1 h2 h3 h4 h6)) rfl hfi hb (fun e => run9 e ) (args := [.agg #[.int .i64 rt, .int .i64 ri, St' c, .int .i64 rp], St' s, .int .i64 n]) (by simp only [RelL, Rel]; exact ⟨_, _, rfl, ⟨_, rfl, ⟨_, _, rfl, rfl, ⟨_, _, rfl, rfl, ⟨_, _, rfl, rfl, ⟨_, _, rfl, rfl, rfl⟩⟩⟩⟩⟩, ⟨_, _, rfl, rfl, ⟨_, _, rfl, rfl, rfl⟩⟩⟩) w hl
def hy10 : List (HK × AV) := [(.len (.x 4), .x 6),
  (.bin .gtr (.x 6) (.i .i64 (.ofNat 3000)), .b false),
  (.len (.x 2), .x 7),
  (.bin .gtr (.x 7) (.i .i64 (.ofNat 70000)), .b false),
  (.bin .neq (.x 4) (.s 0 0), .b true),
  (.idx (.x 4) (.i .i64 (.ofNat 0)), .x 8),
  (.bin .neq (.x 8) (.i .u8 (.ofNat 1)), .b false),
  (.bin .lss (.x 6) (.i .i64 (.ofNat 8)), .b false),
  (.idx (.x 4) (.i .i64 (.ofNat 4)), .x 9),
  (.conv 3 (.x 9), .x 10),
  (.bin .shl (.x 10) (.i .u64 (.ofNat 8)), .x 11),
  (.bin .add (.i .i64 (.ofNat 8)) (.x 11), .x 12),
  (.idx (.x 4) (.i .i64 (.ofNat 5)), .x 13),
  (.conv 3 (.x 13), .x 14),
  (.bin .add (.x 12) (.x 14), .x 15),
  (.idx (.x 4) (.i .i64 (.ofNat 6)), .x 16),
  (.conv 3 (.x 16), .x 17),
  (.bin .add (.x 15) (.x 17), .x 18),
  (.bin .lss (.x 6) (.x 18), .b false),
  (.idx (.x 4) (.i .i64 (.ofNat 1)), .x 19),
  (.bin .eql (.x 19) (.i .u8 (.ofNat 0)), .b false),
  (.conv 3 (.x 19), .x 20),
  (.idx (.x 4) (.i .i64 (.ofNat 2)), .x 21),
  (.conv 3 (.x 21), .x 22),
  (.bin .shl (.x 22) (.i .u64 (.ofNat 8)), .x 23),
  (.idx (.x 4) (.i .i64 (.ofNat 3)), .x 24),
  (.conv 3 (.x 24), .x 25),
  (.bin .or (.x 23) (.x 25), .x 26),
  (.bin .sub (.x 18) (.x 17), .x 27),
  (.sub (.x 4) (some (.i .i64 (.ofNat 8))) (some (.x 27)), .x 28),
  (.sub (.x 4) (some (.x 18)) none, .x 29),
  (.bin .gtr (.x 6) (.i .i64 (.ofNat 0)), .b true),
  (.bin .mul (.x 10) (.i .i64 (.ofNat 256)), .x 30),
  (.bin .add (.x 30) (.x 14), .x 31),
  (.bin .add (.i .i64 (.ofNat 8)) (.x 31), .x 32),
  (.bin .add (.x 32) (.x 17), .x 33),
  (.bin .lss (.x 6) (.x 33), .b false),
  (.bin .mul (.x 22) (.i .i64 (.ofNat 256)), .x 34),
  (.bin .add (.x 34) (.x 25), .x 35),
  (.sub (.x 4) (some (.i .i64 (.ofNat 8))) (some (.x 32)), .x 36),
  (.sub (.x 4) (some (.x 33)) none, .x 37),
  (.bin .geq (.x 0) (.i .i64 (.ofNat 1)), .b false),
  (.eq 3 (.x 20) (.x 20), .b true),
  (.eq 3 (.x 26) (.x 35), .b true),
  (.eq 9 (.x 28) (.x 36), .b true),
  (.eq 3 (.x 17) (.x 17), .b true),
  (.bin .eql (.x 29) (.x 37), .b true),
  (.mm true (.x 5) (.i .i64 (.ofNat 0)), .x 38),
  (.un .neg (.x 38), .x 39),
  (.bin .and (.x 39) (.i .i64 (.ofNat 7)), .x 40),
  (.mm true (.i .i64 (.ofNat 0)) (.x 5), .x 41),
  (.bin .rem (.x 41) (.i .i64 (.ofNat 8)), .x 42),
  (.bin .sub (.i .i64 (.ofNat 8)) (.x 42), .x 43),
  (.bin .rem (.x 43) (.i .i64 (.ofNat 8)), .x 44),
  (.bin .eql (.x 40) (.x 44), .b true)]
noncomputable def tab10 : Tab := { tabk with hyp := hy10 }
theorem run10 (e : Nat) : okB (call tab10 9000 5 [.ag [.x 0, .x 1, .x 2, .x 3], .x 4, .x 5] ⟨H0 e , 7, 0, 0⟩) = true := by kernel_rfl
def nu10 (rt : Int) (ri : Int) (c : List UInt8) (rp : Int) (s : List UInt8) (n : Int) : List Value := [.int .i64 (rt),
  .int .i64 (ri),
  St' c,
  .int .i64 (rp),
  St' s,
  .int .i64 (n),
  .int .i64 ((s.length : Int)),
  .int .i64 ((c.length : Int)),
  .int .u8 (bt s 0),
  .int .u8 (bt s 4),
  .int .i64 ((bt s 4)),
  .int .i64 ((bt s 4) * 256),
  .int .i64 ((bt s 4) * 256 + 8),
  .int .u8 (bt s 5),
  .int .i64 ((bt s 5)),
  .int .i64 ((bt s 4) * 256 + (bt s 5) + 8),
  .int .u8 (bt s 6),
  .int .i64 ((bt s 6)),
  .int .i64 ((bt s 4) * 256 + (bt s 5) + (bt s 6) + 8),
  .int .u8 (bt s 1),
  .int .i64 ((bt s 1)),
  .int .u8 (bt s 2),
  .int .i64 ((bt s 2)),
  .int .i64 ((bt s 2) * 256),
  .int .u8 (bt s 3),
  .int .i64 ((bt s 3)),
  .int .i64 ((bt s 2) * 256 + (bt s 3)),
  .int .i64 ((bt s 4) * 256 + (bt s 5) + 8),
  St' ((List.take ((bt s 4) * 256 + (bt s 5) + 8 - (8)).toNat (List.drop (Int.toNat 8) s))),
  St' ((List.take ((s.length : Int) - ((bt s 4) * 256 + (bt s 5) + (bt s 6) + 8)).toNat (List.drop ((bt s 4) * 256 + (bt s 5) + (bt s 6) + 8).toNat s))),
  .int .i64 ((bt s 4) * 256),
  .int .i64 ((bt s 4) * 256 + (bt s 5)),
  .int .i64 ((bt s 4) * 256 + (bt s 5) + 8),
  .int .i64 ((bt s 4) * 256 + (bt s 5) + (bt s 6) + 8),
  .int .i64 ((bt s 2) * 256),
  .int .i64 ((bt s 2) * 256 + (bt s 3)),
  St' ((List.take ((bt s 4) * 256 + (bt s 5) + 8 - (8)).toNat (List.drop (Int.toNat 8) s))),
  St' ((List.take ((s.length : Int) - ((bt s 4) * 256 + (bt s 5) + (bt s 6) + 8)).toNat (List.drop ((bt s 4) * 256 + (bt s 5) + (bt s 6) + 8).toNat s))),
  .int .i64 (max n 0),
  .int .i64 (-((max n 0))),
  .int .i64 ((-((max n 0))) % 8),
  .int .i64 (max 0 n),
  .int .i64 ((max 0 n) % 8),
  .int .i64 (8 - ((max 0 n) % 8)),
  .int .i64 ((8 - ((max 0 n) % 8)) % 8)]
theorem one10 (rt : Int) (ri : Int) (c : List UInt8) (rp : Int) (s : List UInt8) (n : Int) : ∀ j, (nuL (nu10 rt ri c rp s n) j).oneCell' = true := nuL_one (l := nu10 rt ri c rp s n) rfl
set_option maxHeartbeats 2000000 in
theorem hyOk10 (rt : Int) (ri : Int) (c : List UInt8) (rp : Int) (s : List UInt8) (n : Int) (b0 : -9223372036854775808 ≤ rt) (b1 : rt ≤ 9223372036854775807) (b2 : -9223372036854775808 ≤ ri) (b3 : ri ≤ 9223372036854775807) (b4 : c.length ≤ 9223372036854775807) (b5 : -9223372036854775808 ≤ rp) (b6 : rp ≤ 9223372036854775807) (b7 : s.length ≤ 9223372036854775807) (b8 : -9223372036854775808 ≤ n) (b9 : n ≤ 9223372036854775807) (h0 : ¬ (3000 < (s.length : Int))) (h1 : ¬ (70000 < (c.length : Int))) (h2 : ¬ ((s.length : Int) = 0)) (h3 : bt s 0 = 1) (h4 : ¬ ((s.length : Int) < 8)) (h5 : ¬ ((s.length : Int) < (bt s 4) * 256 + (bt s 5) + (bt s 6) + 8)) (h6 : ¬ (bt s 1 = 0)) (h9 : ¬ (1 ≤ rt)) : ∀ k r, (k, r) ∈ hy10 → HOk (cx (nuL (nu10 rt ri c rp s n)) (one10 rt ri c rp s n) 1 laidE laidE_stab) k r := by
  have := bt_lo s 0; have := bt_hi s 0
  have := bt_lo s 4; have := bt_hi s 4
  have := bt_lo s 5; have := bt_hi s 5
  have := bt_lo s 6; have := bt_hi s 6
  have := bt_lo s 1; have := bt_hi s 1
  have := bt_lo s 2; have := bt_hi s 2
  have := bt_lo s 3; have := bt_hi s 3
  unfold hy10
  refine hcons (kLenE (isX rfl) (denX rfl) (by first | omega | (simp only [List.length_append, List.length_cons, List.length_nil, List.length_take, List.length_drop, List.length_replicate, Int.natCast_add] at *; omega))) ?_
  refine hcons (kGt (isX rfl) (isZ (m := 3000) rfl) (decide_eq_false (by omega))) ?_
  refine hcons (kLenE (isX rfl) (denX rfl) (by first | omega | (simp only [List.length_append, List.length_cons, List.length_nil, List.length_take, List.length_drop, List.length_replicate, Int.natCast_add] at *; omega))) ?_
  refine hcons (kGt (isX rfl) (isZ (m := 70000) rfl) (decide_eq_false (by omega))) ?_
  refine hcons (kNeS (isX rfl) (isSx (l := ([] : List UInt8)) 0 0 rfl) (bnT (by first | exact nilT (by first | omega | (simp only [List.length_append, List.length_cons, List.length_nil, List.length_take, List.length_drop, List.length_replicate, Int.natCast_add] at *; omega)) | exact nilF (by first | omega | (simp only [List.length_append, List.length_cons, List.length_nil, List.length_take, List.length_drop, List.length_replicate, Int.natCast_add] at *; omega)) | exact nilT' (by first | omega | (simp only [List.length_append, List.length_cons, List.length_nil, List.length_take, List.length_drop, List.length_replicate, Int.natCast_add] at *; omega)) | exact nilF' (by first | omega | (simp only [List.length_append, List.length_cons, List.length_nil, List.length_take, List.length_drop, List.length_replicate, Int.natCast_add] at *; omega))))) ?_
  refine hcons (kIdxE (i := 0) (isX rfl) (isZ (m := 0) rfl) (denX rfl) rfl (by first | omega | (simp only [List.length_append, List.length_cons, List.length_nil, List.length_take, List.length_drop, List.length_replicate, Int.natCast_add] at *; omega)) rfl) ?_
  refine hcons (kNeI (isX rfl) (isZ (m := 1) rfl) (neF (by omega))) ?_
  refine hcons (kLt (isX rfl) (isZ (m := 8) rfl) (decide_eq_false (by omega))) ?_
  refine hcons (kIdxE (i := 4) (isX rfl) (isZ (m := 4) rfl) (denX rfl) rfl (by first | omega | (simp only [List.length_append, List.length_cons, List.length_nil, List.length_take, List.length_drop, List.length_replicate, Int.natCast_add] at *; omega)) rfl) ?_
  refine hcons (kConvF (isX rfl) tu3 (denX rfl) (fI64 (by omega) (by omega))) ?_
  refine hcons (kShlM 8 256 rfl (isX rfl) (isZ (m := 8) rfl) (denX rfl) rfl (by decide) (by omega) (fI64 (by omega) (by omega))) ?_
  refine hcons (kAdd (isZ (m := 8) rfl) (isX rfl) (denX rfl) (by omega) (fI64 (by omega) (by omega))) ?_
  refine hcons (kIdxE (i := 5) (isX rfl) (isZ (m := 5) rfl) (denX rfl) rfl (by first | omega | (simp only [List.length_append, List.length_cons, List.length_nil, List.length_take, List.length_drop, List.length_replicate, Int.natCast_add] at *; omega)) rfl) ?_
  refine hcons (kConvF (isX rfl) tu3 (denX rfl) (fI64 (by omega) (by omega))) ?_
  refine hcons (kAdd (isX rfl) (isX rfl) (denX rfl) (by omega) (fI64 (by omega) (by omega))) ?_
  refine hcons (kIdxE (i := 6) (isX rfl) (isZ (m := 6) rfl) (denX rfl) rfl (by first | omega | (simp only [List.length_append, List.length_cons, List.length_nil, List.length_take, List.length_drop, List.length_replicate, Int.natCast_add] at *; omega)) rfl) ?_
  refine hcons (kConvF (isX rfl) tu3 (denX rfl) (fI64 (by omega) (by omega))) ?_
  refine hcons (kAdd (isX rfl) (isX rfl) (denX rfl) (by omega) (fI64 (by omega) (by omega))) ?_
  refine hcons (kLt (isX rfl) (isX rfl) (decide_eq_false (by omega))) ?_
  refine hcons (kIdxE (i := 1) (isX rfl) (isZ (m := 1) rfl) (denX rfl) rfl (by first | omega | (simp only [List.length_append, List.length_cons, List.length_nil, List.length_take, List.length_drop, List.length_replicate, Int.natCast_add] at *; omega)) rfl) ?_
  refine hcons (kEqI (isX rfl) (isZ (m := 0) rfl) (decide_eq_false (by omega))) ?_
  refine hcons (kConvF (isX rfl) tu3 (denX rfl) (fI64 (by omega) (by omega))) ?_
  refine hcons (kIdxE (i := 2) (isX rfl) (isZ (m := 2) rfl) (denX rfl) rfl (by first | omega | (simp only [List.length_append, List.length_cons, List.length_nil, List.length_take, List.length_drop, List.length_replicate, Int.natCast_add] at *; omega)) rfl) ?_
  refine hcons (kConvF (isX rfl) tu3 (denX rfl) (fI64 (by omega) (by omega))) ?_
  refine hcons (kShlM 8 256 rfl (isX rfl) (isZ (m := 8) rfl) (denX rfl) rfl (by decide) (by omega) (fI64 (by omega) (by omega))) ?_
  refine hcons (kIdxE (i := 3) (isX rfl) (isZ (m := 3) rfl) (denX rfl) rfl (by first | omega | (simp only [List.length_append, List.length_cons, List.length_nil, List.length_take, List.length_drop, List.length_replicate, Int.natCast_add] at *; omega)) rfl) ?_
  refine hcons (kConvF (isX rfl) tu3 (denX rfl) (fI64 (by omega) (by omega))) ?_
  refine hcons (kOrM 8 256 rfl (isX rfl) (isX rfl) (denX rfl) (by omega) (by omega) (fI64 (by omega) (by omega)) (fI64 (by omega) (by omega)) (by omega) (by omega) (by omega) (fI64 (by omega) (by omega))) ?_
  refine hcons (kSub (isX rfl) (isX rfl) (denX rfl) (by omega) (fI64 (by omega) (by omega))) ?_
  refine hcons (kMid (P := 8) (Q := (bt s 4) * 256 + (bt s 5) + 8) (isX rfl) (.inr ⟨_, _, rfl, (isZ (m := 8) rfl)⟩) (.inr ⟨_, _, rfl, (isX rfl)⟩) (by first | omega | (simp only [List.length_append, List.length_cons, List.length_nil, List.length_take, List.length_drop, List.length_replicate, Int.natCast_add] at *; omega)) (by first | omega | (simp only [List.length_append, List.length_cons, List.length_nil, List.length_take, List.length_drop, List.length_replicate, Int.natCast_add] at *; omega)) (by first | omega | (simp only [List.length_append, List.length_cons, List.length_nil, List.length_take, List.length_drop, List.length_replicate, Int.natCast_add] at *; omega)) (denX rfl)) ?_
  refine hcons (kMid (P := (bt s 4) * 256 + (bt s 5) + (bt s 6) + 8) (Q := (s.length : Int)) (isX rfl) (.inr ⟨_, _, rfl, (isX rfl)⟩) (.inl ⟨rfl, by first | omega | (simp only [List.length_append, List.length_cons, List.length_nil, List.length_take, List.length_drop, List.length_replicate, Int.natCast_add] at *; omega)⟩) (by first | omega | (simp only [List.length_append, List.length_cons, List.length_nil, List.length_take, List.length_drop, List.length_replicate, Int.natCast_add] at *; omega)) (by first | omega | (simp only [List.length_append, List.length_cons, List.length_nil, List.length_take, List.length_drop, List.length_replicate, Int.natCast_add] at *; omega)) (by first | omega | (simp only [List.length_append, List.length_cons, List.length_nil, List.length_take, List.length_drop, List.length_replicate, Int.natCast_add] at *; omega)) (denX rfl)) ?_
  refine hcons (kGt (isX rfl) (isZ (m := 0) rfl) (decide_eq_true (by omega))) ?_
  refine hcons (kMul (isX rfl) (isZ (m := 256) rfl) (denX rfl) (by omega) (fI64 (by omega) (by omega))) ?_
  refine hcons (kAdd (isX rfl) (isX rfl) (denX rfl) (by omega) (fI64 (by omega) (by omega))) ?_
  refine hcons (kAdd (isZ (m := 8) rfl) (isX rfl) (denX rfl) (by omega) (fI64 (by omega) (by omega))) ?_
  refine hcons (kAdd (isX rfl) (isX rfl) (denX rfl) (by omega) (fI64 (by omega) (by omega))) ?_
  refine hcons (kLt (isX rfl) (isX rfl) (decide_eq_false (by omega))) ?_
  refine hcons (kMul (isX rfl) (isZ (m := 256) rfl) (denX rfl) (by omega) (fI64 (by omega) (by omega))) ?_
  refine hcons (kAdd (isX rfl) (isX rfl) (denX rfl) (by omega) (fI64 (by omega) (by omega))) ?_
  refine hcons (kMid (P := 8) (Q := (bt s 4) * 256 + (bt s 5) + 8) (isX rfl) (.inr ⟨_, _, rfl, (isZ (m := 8) rfl)⟩) (.inr ⟨_, _, rfl, (isX rfl)⟩) (by first | omega | (simp only [List.length_append, List.length_cons, List.length_nil, List.length_take, List.length_drop, List.length_replicate, Int.natCast_add] at *; omega)) (by first | omega | (simp only [List.length_append, List.length_cons, List.length_nil, List.length_take, List.length_drop, List.length_replicate, Int.natCast_add] at *; omega)) (by first | omega | (simp only [List.length_append, List.length_cons, List.length_nil, List.length_take, List.length_drop, List.length_replicate, Int.natCast_add] at *; omega)) (denX rfl)) ?_
  refine hcons (kMid (P := (bt s 4) * 256 + (bt s 5) + (bt s 6) + 8) (Q := (s.length : Int)) (isX rfl) (.inr ⟨_, _, rfl, (isX rfl)⟩) (.inl ⟨rfl, by first | omega | (simp only [List.length_append, List.length_cons, List.length_nil, List.length_take, List.length_drop, List.length_replicate, Int.natCast_add] at *; omega)⟩) (by first | omega | (simp only [List.length_append, List.length_cons, List.length_nil, List.length_take, List.length_drop, List.length_replicate, Int.natCast_add] at *; omega)) (by first | omega | (simp only [List.length_append, List.length_cons, List.length_nil, List.length_take, List.length_drop, List.length_replicate, Int.natCast_add] at *; omega)) (by first | omega | (simp only [List.length_append, List.length_cons, List.length_nil, List.length_take, List.length_drop, List.length_replicate, Int.natCast_add] at *; omega)) (denX rfl)) ?_
  refine hcons (kGe (isX rfl) (isZ (m := 1) rfl) (decide_eq_false (by omega))) ?_
  refine hcons (kEqT (isX rfl) (isX rfl) tu3 (decide_eq_true (by omega))) ?_
  refine hcons (kEqT (isX rfl) (isX rfl) tu3 (decide_eq_true (by omega))) ?_
  refine hcons (kEqTS (isX rfl) (isX rfl) tu9 (decide_eq_true rfl)) ?_
  refine hcons (kEqT (isX rfl) (isX rfl) tu3 (decide_eq_true (by omega))) ?_
  refine hcons (kEqS (isX rfl) (isX rfl) (decide_eq_true rfl)) ?_
  refine hcons (kMax (isX rfl) (isZ (m := 0) rfl) (denX rfl) rfl) ?_
  refine hcons (kNeg (isX rfl) (denX rfl) (by omega) (fI64 (by omega) (by omega))) ?_
  refine hcons (kAndG 3 8 rfl (by decide) (isX rfl) (isZ (m := 7) rfl) (denX rfl) (fI64 (by omega) (by omega)) rfl rfl (fI64 (by omega) (by omega))) ?_
  refine hcons (kMax (isZ (m := 0) rfl) (isX rfl) (denX rfl) rfl) ?_
  refine hcons (kRem (isX rfl) (isZ (m := 8) rfl) (denX rfl) (by omega) (by omega) rfl) ?_
  refine hcons (kSub (isZ (m := 8) rfl) (isX rfl) (denX rfl) (by omega) (fI64 (by omega) (by omega))) ?_
  refine hcons (kRem (isX rfl) (isZ (m := 8) rfl) (denX rfl) (by omega) (by omega) rfl) ?_
  refine hcons (kEqI (isX rfl) (isX rfl) (decide_eq_true (by omega))) ?_
  exact hnil
theorem path10 (rt : Int) (ri : Int) (c : List UInt8) (rp : Int) (s : List UInt8) (n : Int) (b0 : -9223372036854775808 ≤ rt) (b1 : rt ≤ 9223372036854775807) (b2 : -9223372036854775808 ≤ ri) (b3 : ri ≤ 9223372036854775807) (b4 : c.length ≤ 9223372036854775807) (b5 : -9223372036854775808 ≤ rp) (b6 : rp ≤ 9223372036854775807) (b7 : s.length ≤ 9223372036854775807) (b8 : -9223372036854775808 ≤ n) (b9 : n ≤ 9223372036854775807) (h0 : ¬ (3000 < (s.length : Int))) (h1 : ¬ (70000 < (c.length : Int))) (h2 : ¬ ((s.length : Int) = 0)) (h3 : bt s 0 = 1) (h4 : ¬ ((s.length : Int) < 8)) (h5 : ¬ ((s.length : Int) < (bt s 4) * 256 + (bt s 5) + (bt s 6) + 8)) (h6 : ¬ (bt s 1 = 0)) (h9 : ¬ (1 ≤ rt)) (w : World) (hl : laidE w) : Calls Tryd.prog 5 #[.agg #[.int .i64 rt, .int .i64 ri, St' c, .int .i64 rp], St' s, .int .i64 n] w fun e w' => e = .returned (.bool true) ∧ Go.AX.Below w.heap.size w w' := by
  obtain ⟨fi, hfi, hb⟩ : ∃ fi, tabk.fn.get 5 = some fi ∧ fi.body.isSome = true := ⟨_, rfl, by kernel_rfl⟩
  exact runP (tb := tab10) ((tabkOk (nuL (nu10 rt ri c rp s n)) (one10 rt ri c rp s n)).hyps (hyOk10 rt ri c rp s n b0 b1 b2 b3 b4 b5 b6 b7 b8 b9 h0 h1 h2 h3 h4 h5 h6 h9)) rfl hfi hb (fun e => run10 e ) (args := [.agg #[.int .i64 rt, .int .i64 ri, St' c, .int .i64 rp], St' s, .int .i64 n]) (by simp only [RelL, Rel]; exact ⟨_, _, rfl, ⟨_, rfl, ⟨_, _, rfl, rfl, ⟨_, _, rfl, rfl, ⟨_, _, rfl, rfl, ⟨_, _, rfl, rfl, rfl⟩⟩⟩⟩⟩, ⟨_, _, rfl, rfl, ⟨_, _, rfl, rfl, rfl⟩⟩⟩) w hl
def hy11 : List (HK × AV) := [(.len (.x 4), .x 6),
  (.bin .gtr (.x 6) (.i .i64 (.ofNat 3000)), .b false),
  (.len (.x 2), .x 7),
  (.bin .gtr (.x 7) (.i .i64 (.ofNat 70000)), .b false),
  (.bin .neq (.x 4) (.s 0 0), .b true),
  (.idx (.x 4) (.i .i64 (.ofNat 0)), .x 8),
  (.bin .neq (.x 8) (.i .u8 (.ofNat 1)), .b false),
  (.bin .lss (.x 6) (.i .i64 (.ofNat 8)), .b false),
  (.idx (.x 4) (.i .i64 (.ofNat 4)), .x 9),
  (.conv 3 (.x 9), .x 10),
  (.bin .shl (.x 10) (.i .u64 (.ofNat 8)), .x 11),
  (.bin .add (.i .i64 (.ofNat 8)) (.x 11), .x 12),
  (.idx (.x 4) (.i .i64 (.ofNat 5)), .x 13),
  (.conv 3 (.x 13), .x 14),
  (.bin .add (.x 12) (.x 14), .x 15),
  (.idx (.x 4) (.i .i64 (.ofNat 6)), .x 16),
  (.conv 3 (.x 16), .x 17),
  (.bin .add (.x 15) (.x 17), .x 18),
  (.bin .lss (.x 6) (.x 18), .b false),
  (.idx (.x 4) (.i .i64 (.ofNat 1)), .x 19),
  (.bin .eql (.x 19) (.i .u8 (.ofNat 0)), .b true),
  (.bin .gtr (.x 6) (.i .i64 (.ofNat 0)), .b true),
  (.bin .mul (.x 10) (.i .i64 (.ofNat 256)), .x 20),
  (.bin .add (.x 20) (.x 14), .x 21),
  (.bin .add (.i .i64 (.ofNat 8)) (.x 21), .x 22),
  (.bin .add (.x 22) (.x 17), .x 23),
  (.bin .lss (.x 6) (.x 23), .b false),
  (.bin .geq (.x 0) (.i .i64 (.ofNat 1)), .b false),
  (.bin .eql (.x 4) (.x 4), .b true),
  (.mm true (.x 5) (.i .i64 (.ofNat 0)), .x 24),
  (.un .neg (.x 24), .x 25),
  (.bin .and (.x 25) (.i .i64 (.ofNat 7)), .x 26),
  (.mm true (.i .i64 (.ofNat 0)) (.x 5), .x 27),
  (.bin .rem (.x 27) (.i .i64 (.ofNat 8)), .x 28),
  (.bin .sub (.i .i64 (.ofNat 8)) (.x 28), .x 29),
  (.bin .rem (.x 29) (.i .i64 (.ofNat 8)), .x 30),
  (.bin .eql (.x 26) (.x 30), .b true)]
noncomputable def tab11 : Tab := { tabk with hyp := hy11 }
theorem run11 (e : Nat) : okB (call tab11 9000 5 [.ag [.x 0, .x 1, .x 2, .x 3], .x 4, .x 5] ⟨H0 e , 7, 0, 0⟩) = true := by kernel_rfl
def nu11 (rt : Int) (ri : Int) (c : List UInt8) (rp : Int) (s : List UInt8) (n : Int) : List Value := [.int .i64 (rt),
  .int .i64 (ri),
  St' c,
  .int .i64 (rp),
  St' s,
  .int .i64 (n),
  .int .i64 ((s.length : Int)),
  .int .i64 ((c.length : Int)),
  .int .u8 (bt s 0),
  .int .u8 (bt s 4),
  .int .i64 ((bt s 4)),
  .int .i64 ((bt s 4) * 256),
  .int .i64 ((bt s 4) * 256 + 8),
  .int .u8 (bt s 5),
  .int .i64 ((bt s 5)),
  .int .i64 ((bt s 4) * 256 + (bt s 5) + 8),
  .int .u8 (bt s 6),
  .int .i64 ((bt s 6)),
  .int .i64 ((bt s 4) * 256 + (bt s 5) + (bt s 6) + 8),
  .int .u8 (bt s 1),
  .int .i64 ((bt s 4) * 256),
  .int .i64 ((bt s 4) * 256 + (bt s 5)),
  .int .i64 ((bt s 4) * 256 + (bt s 5) + 8),
  .int .i64 ((bt s 4) * 256 + (bt s 5) + (bt s 6) + 8),
  .int .i64 (max n 0),
  .int .i64 (-((max n 0))),
  .int .i64 ((-((max n 0))) % 8),
  .int .i64 (max 0 n),
  .int .i64 ((max 0 n) % 8),
  .int .i64 (8 - ((max 0 n) % 8)),
  .int .i64 ((8 - ((max 0 n) % 8)) % 8)]
theorem one11 (rt : Int) (ri : Int) (c : List UInt8) (rp : Int) (s : List UInt8) (n : Int) : ∀ j, (nuL (nu11 rt ri c rp s n) j).oneCell' = true := nuL_one (l := nu11 rt ri c rp s n) rfl
set_option maxHeartbeats 2000000 in
theorem hyOk11 (rt : Int) (ri : Int) (c : List UInt8) (rp : Int) (s : List UInt8) (n : Int) (b0 : -9223372036854775808 ≤ rt) (b1 : rt ≤ 9223372036854775807) (b2 : -9223372036854775808 ≤ ri) (b3 : ri ≤ 9223372036854775807) (b4 : c.length ≤ 9223372036854775807) (b5 : -9223372036854775808 ≤ rp) (b6 : rp ≤ 9223372036854775807) (b7 : s.length ≤ 9223372036854775807) (b8 : -9223372036854775808 ≤ n) (b9 : n ≤ 9223372036854775807) (h0 : ¬ (3000 < (s.length : Int))) (h1 : ¬ (70000 < (c.length : Int))) (h2 : ¬ ((s.length : Int) = 0)) (h3 : bt s 0 = 1) (h4 : ¬ ((s.length : Int) < 8)) (h5 : ¬ ((s.length : Int) < (bt s 4) * 256 + (bt s 5) + (bt s 6) + 8)) (h6 : bt s 1 = 0) (h9 : ¬ (1 ≤ rt)) : ∀ k r, (k, r) ∈ hy11 → HOk (cx (nuL (nu11 rt ri c rp s n)) (one11 rt ri c rp s n) 1 laidE laidE_stab) k r := by
  have := bt_lo s 0; have := bt_hi s 0
  have := bt_lo s 4; have := bt_hi s 4
  have := bt_lo s 5; have := bt_hi s 5
  have := bt_lo s 6; have := bt_hi s 6
  have := bt_lo s 1; have := bt_hi s 1
  unfold hy11
  refine hcons (kLenE (isX rfl) (denX rfl) (by first | omega | (simp only [List.length_append, List.length_cons, List.length_nil, List.length_take, List.length_drop, List.length_replicate, Int.natCast_add] at *; omega))) ?_
  refine hcons (kGt (isX rfl) (isZ (m := 3000) rfl) (decide_eq_false (by omega))) ?_
  refine hcons (kLenE (isX rfl) (denX rfl) (by first | omega | (simp only [List.length_append, List.length_cons, List.length_nil, List.length_take, List.length_drop, List.length_replicate, Int.natCast_add] at *; omega))) ?_
  refine hcons (kGt (isX rfl) (isZ (m := 70000) rfl) (decide_eq_false (by omega))) ?_
  refine hcons (kNeS (isX rfl) (isSx (l := ([] : List UInt8)) 0 0 rfl) (bnT (by first | exact nilT (by first | omega | (simp only [List.length_append, List.length_cons, List.length_nil, List.length_take, List.length_drop, List.length_replicate, Int.natCast_add] at *; omega)) | exact nilF (by first | omega | (simp only [List.length_append, List.length_cons, List.length_nil, List.length_take, List.length_drop, List.length_replicate, Int.natCast_add] at *; omega)) | exact nilT' (by first | omega | (simp only [List.length_append, List.length_cons, List.length_nil, List.length_take, List.length_drop, List.length_replicate, Int.natCast_add] at *; omega)) | exact nilF' (by first | omega | (simp only [List.length_append, List.length_cons, List.length_nil, List.length_take, List.length_drop, List.length_replicate, Int.natCast_add] at *; omega))))) ?_
  refine hcons (kIdxE (i := 0) (isX rfl) (isZ (m := 0) rfl) (denX rfl) rfl (by first | omega | (simp only [List.length_append, List.length_cons, List.length_nil, List.length_take, List.length_drop, List.length_replicate, Int.natCast_add] at *; omega)) rfl) ?_
  refine hcons (kNeI (isX rfl) (isZ (m := 1) rfl) (neF (by omega))) ?_
  refine hcons (kLt (isX rfl) (isZ (m := 8) rfl) (decide_eq_false (by omega))) ?_
  refine hcons (kIdxE (i := 4) (isX rfl) (isZ (m := 4) rfl) (denX rfl) rfl (by first | omega | (simp only [List.length_append, List.length_cons, List.length_nil, List.length_take, List.length_drop, List.length_replicate, Int.natCast_add] at *; omega)) rfl) ?_
  refine hcons (kConvF (isX rfl) tu3 (denX rfl) (fI64 (by omega) (by omega))) ?_
  refine hcons (kShlM 8 256 rfl (isX rfl) (isZ (m := 8) rfl) (denX rfl) rfl (by decide) (by omega) (fI64 (by omega) (by omega))) ?_
  refine hcons (kAdd (isZ (m := 8) rfl) (isX rfl) (denX rfl) (by omega) (fI64 (by omega) (by omega))) ?_
  refine hcons (kIdxE (i := 5) (isX rfl) (isZ (m := 5) rfl) (denX rfl) rfl (by first | omega | (simp only [List.length_append, List.length_cons, List.length_nil, List.length_take, List.length_drop, List.length_replicate, Int.natCast_add] at *; omega)) rfl) ?_
  refine hcons (kConvF (isX rfl) tu3 (denX rfl) (fI64 (by omega) (by omega))) ?_
  refine hcons (kAdd (isX rfl) (isX rfl) (denX rfl) (by omega) (fI64 (by omega) (by omega))) ?_
  refine hcons (kIdxE (i := 6) (isX rfl) (isZ (m := 6) rfl) (denX rfl) rfl (by first | omega | (simp only [List.length_append, List.length_cons, List.length_nil, List.length_take, List.length_drop, List.length_replicate, Int.natCast_add] at *; omega)) rfl) ?_
  refine hcons (kConvF (isX rfl) tu3 (denX rfl) (fI64 (by omega) (by omega))) ?_
  refine hcons (kAdd (isX rfl) (isX rfl) (denX rfl) (by omega) (fI64 (by omega) (by omega))) ?_
  refine hcons (kLt (isX rfl) (isX rfl) (decide_eq_false (by omega))) ?_
  refine hcons (kIdxE (i := 1) (isX rfl) (isZ (m := 1) rfl) (denX rfl) rfl (by first | omega | (simp only [List.length_append, List.length_cons, List.length_nil, List.length_take, List.length_drop, List.length_replicate, Int.natCast_add] at *; omega)) rfl) ?_
  refine hcons (kEqI (isX rfl) (isZ (m := 0) rfl) (decide_eq_true (by omega))) ?_
  refine hcons (kGt (isX rfl) (isZ (m := 0) rfl) (decide_eq_true (by omega))) ?_
  refine hcons (kMul (isX rfl) (isZ (m := 256) rfl) (denX rfl) (by omega) (fI64 (by omega) (by omega))) ?_
  refine hcons (kAdd (isX rfl) (isX rfl) (denX rfl) (by omega) (fI64 (by omega) (by omega))) ?_
  refine hcons (kAdd (isZ (m := 8) rfl) (isX rfl) (denX rfl) (by omega) (fI64 (by omega) (by omega))) ?_
  refine hcons (kAdd (isX rfl) (isX rfl) (denX rfl) (by omega) (fI64 (by omega) (by omega))) ?_
  refine hcons (kLt (isX rfl) (isX rfl) (decide_eq_false (by omega))) ?_
  refine hcons (kGe (isX rfl) (isZ (m := 1) rfl) (decide_eq_false (by omega))) ?_
  refine hcons (kEqS (isX rfl) (isX rfl) (decide_eq_true rfl)) ?_
  refine hcons (kMax (isX rfl) (isZ (m := 0) rfl) (denX rfl) rfl) ?_
  refine hcons (kNeg (isX rfl) (denX rfl) (by omega) (fI64 (by omega) (by omega))) ?_
  refine hcons (kAndG 3 8 rfl (by decide) (isX rfl) (isZ (m := 7) rfl) (denX rfl) (fI64 (by omega) (by omega)) rfl rfl (fI64 (by omega) (by omega))) ?_
  refine hcons (kMax (isZ (m := 0) rfl) (isX rfl) (denX rfl) rfl) ?_
  refine hcons (kRem (isX rfl) (isZ (m := 8) rfl) (denX rfl) (by omega) (by omega) rfl) ?_
  refine hcons (kSub (isZ (m := 8) rfl) (isX rfl) (denX rfl) (by omega) (fI64 (by omega) (by omega))) ?_
  refine hcons (kRem (isX rfl) (isZ (m := 8) rfl) (denX rfl) (by omega) (by omega) rfl) ?_
  refine hcons (kEqI (isX rfl) (isX rfl) (decide_eq_true (by omega))) ?_
  exact hnil
theorem path11 (rt : Int) (ri : Int) (c : List UInt8) (rp : Int) (s : List UInt8) (n : Int) (b0 : -9223372036854775808 ≤ rt) (b1 : rt ≤ 9223372036854775807) (b2 : -9223372036854775808 ≤ ri) (b3 : ri ≤ 9223372036854775807) (b4 : c.length ≤ 9223372036854775807) (b5 : -9223372036854775808 ≤ rp) (b6 : rp ≤ 9223372036854775807) (b7 : s.length ≤ 9223372036854775807) (b8 : -9223372036854775808 ≤ n) (b9 : n ≤ 9223372036854775807) (h0 : ¬ (3000 < (s.length : Int))) (h1 : ¬ (70000 < (c.length : Int))) (h2 : ¬ ((s.length : Int) = 0)) (h3 : bt s 0 = 1) (h4 : ¬ ((s.length : Int) < 8)) (h5 : ¬ ((s.length : Int) < (bt s 4) * 256 + (bt s 5) + (bt s 6) + 8)) (h6 : bt s 1 = 0) (h9 : ¬ (1 ≤ rt)) (w : World) (hl : laidE w) : Calls Tryd.prog 5 #[.agg #[.int .i64 rt, .int .i64 ri, St' c, .int .i64 rp], St' s, .int .i64 n] w fun e w' => e = .returned (.bool true) ∧ Go.AX.Below w.heap.size w w' := by
  obtain ⟨fi, hfi, hb⟩ : ∃ fi, tabk.fn.get 5 = some fi ∧ fi.body.isSome = true := ⟨_, rfl, by kernel_rfl⟩
  exact runP (tb := tab11) ((tabkOk (nuL (nu11 rt ri c rp s n)) (one11 rt ri c rp s n)).hyps (hyOk11 rt ri c rp s n b0 b1 b2 b3 b4 b5 b6 b7 b8 b9 h0 h1 h2 h3 h4 h5 h6 h9)) rfl hfi hb (fun e => run11 e ) (args := [.agg #[.int .i64 rt, .int .i64 ri, St' c, .int .i64 rp], St' s, .int .i64 n]) (by simp only [RelL, Rel]; exact ⟨_, _, rfl, ⟨_, rfl, ⟨_, _, rfl, rfl, ⟨_, _, rfl, rfl, ⟨_, _, rfl, rfl, ⟨_, _, rfl, rfl, rfl⟩⟩⟩⟩⟩, ⟨_, _, rfl, rfl, ⟨_, _, rfl, rfl, rfl⟩⟩⟩) w hl
end Go.Proofs.YtejdkoheodambaaDoor.recordTells
