/- A part of the proof: an interpreter of the model's own code on partly known states, and that what it answers is what the program answers. No condition of its own. -/
import Derived.Test.YtejdkoheodambaaDoorB3RecordTellsO
set_option maxRecDepth 100000
set_option linter.unusedVariables false
set_option linter.unusedSimpArgs false
namespace Go.Proofs.YtejdkoheodambaaDoor.recordTells
open Go Go.AX Go.Proofs Go.Proofs.YtejdkoheodambaaDoor
def hy24 : List (HK × AV) := [(.len (.x 4), .x 6),
  (.bin .gtr (.x 6) (.i .i64 (.ofNat 3000)), .b false),
  (.len (.x 2), .x 7),
  (.bin .gtr (.x 7) (.i .i64 (.ofNat 70000)), .b false),
  (.bin .neq (.x 4) (.s 0 0), .b true),
  (.idx (.x 4) (.i .i64 (.ofNat 0)), .x 8),
  (.bin .neq (.x 8) (.i .u8 (.ofNat 1)), .b false),
  (.bin .lss (.x 6) (.i .i64 (.ofNat 8)), .b false),
  (.idx (.x 4) (.i .i64 (.ofNat 4)), .x 9),
  (.conv 3 (.x 9), .x 10),
  (.bin .shl (.x 10) (.i .u64 (.ofNat 8)), .x 11),
  (.bin .add (.i .i64 (.ofNat 8)) (.x 11), .x 12),
  (.idx (.x 4) (.i .i64 (.ofNat 5)), .x 13),
  (.conv 3 (.x 13), .x 14),
  (.bin .add (.x 12) (.x 14), .x 15),
  (.idx (.x 4) (.i .i64 (.ofNat 6)), .x 16),
  (.conv 3 (.x 16), .x 17),
  (.bin .add (.x 15) (.x 17), .x 18),
  (.bin .lss (.x 6) (.x 18), .b true),
  (.bin .gtr (.x 6) (.i .i64 (.ofNat 0)), .b true),
  (.bin .mul (.x 10) (.i .i64 (.ofNat 256)), .x 19),
  (.bin .add (.x 19) (.x 14), .x 20),
  (.bin .add (.i .i64 (.ofNat 8)) (.x 20), .x 21),
  (.bin .add (.x 21) (.x 17), .x 22),
  (.bin .lss (.x 6) (.x 22), .b true),
  (.bin .geq (.x 0) (.i .i64 (.ofNat 1)), .b true),
  (.bin .leq (.x 0) (.i .i64 (.ofNat 255)), .b true),
  (.bin .geq (.x 1) (.i .i64 (.ofNat 0)), .b false),
  (.bin .eql (.x 4) (.x 4), .b true),
  (.mm true (.x 5) (.i .i64 (.ofNat 0)), .x 23),
  (.un .neg (.x 23), .x 24),
  (.bin .and (.x 24) (.i .i64 (.ofNat 7)), .x 25),
  (.mm true (.i .i64 (.ofNat 0)) (.x 5), .x 26),
  (.bin .rem (.x 26) (.i .i64 (.ofNat 8)), .x 27),
  (.bin .sub (.i .i64 (.ofNat 8)) (.x 27), .x 28),
  (.bin .rem (.x 28) (.i .i64 (.ofNat 8)), .x 29),
  (.bin .eql (.x 25) (.x 29), .b true)]
noncomputable def tab24 : Tab := { tabk with hyp := hy24 }
theorem run24 (e : Nat) : okB (call tab24 9000 5 [.ag [.x 0, .x 1, .x 2, .x 3], .x 4, .x 5] ⟨H0 e , 7, 0, 0⟩) = true := by kernel_rfl
def nu24 (rt : Int) (ri : Int) (c : List UInt8) (rp : Int) (s : List UInt8) (n : Int) : List Value := [.int .i64 (rt),
  .int .i64 (ri),
  St' c,
  .int .i64 (rp),
  St' s,
  .int .i64 (n),
  .int .i64 ((s.length : Int)),
  .int .i64 ((c.length : Int)),
  .int .u8 (bt s 0),
  .int .u8 (bt s 4),
  .int .i64 ((bt s 4)),
  .int .i64 ((bt s 4) * 256),
  .int .i64 ((bt s 4) * 256 + 8),
  .int .u8 (bt s 5),
  .int .i64 ((bt s 5)),
  .int .i64 ((bt s 4) * 256 + (bt s 5) + 8),
  .int .u8 (bt s 6),
  .int .i64 ((bt s 6)),
  .int .i64 ((bt s 4) * 256 + (bt s 5) + (bt s 6) + 8),
  .int .i64 ((bt s 4) * 256),
  .int .i64 ((bt s 4) * 256 + (bt s 5)),
  .int .i64 ((bt s 4) * 256 + (bt s 5) + 8),
  .int .i64 ((bt s 4) * 256 + (bt s 5) + (bt s 6) + 8),
  .int .i64 (max n 0),
  .int .i64 (-((max n 0))),
  .int .i64 ((-((max n 0))) % 8),
  .int .i64 (max 0 n),
  .int .i64 ((max 0 n) % 8),
  .int .i64 (8 - ((max 0 n) % 8)),
  .int .i64 ((8 - ((max 0 n) % 8)) % 8)]
theorem one24 (rt : Int) (ri : Int) (c : List UInt8) (rp : Int) (s : List UInt8) (n : Int) : ∀ j, (nuL (nu24 rt ri c rp s n) j).oneCell' = true := nuL_one (l := nu24 rt ri c rp s n) rfl
set_option maxHeartbeats 2000000 in
theorem hyOk24 (rt : Int) (ri : Int) (c : List UInt8) (rp : Int) (s : List UInt8) (n : Int) (b0 : -9223372036854775808 ≤ rt) (b1 : rt ≤ 9223372036854775807) (b2 : -9223372036854775808 ≤ ri) (b3 : ri ≤ 9223372036854775807) (b4 : c.length ≤ 9223372036854775807) (b5 : -9223372036854775808 ≤ rp) (b6 : rp ≤ 9223372036854775807) (b7 : s.length ≤ 9223372036854775807) (b8 : -9223372036854775808 ≤ n) (b9 : n ≤ 9223372036854775807) (h0 : ¬ (3000 < (s.length : Int))) (h1 : ¬ (70000 < (c.length : Int))) (h2 : ¬ ((s.length : Int) = 0)) (h3 : bt s 0 = 1) (h4 : ¬ ((s.length : Int) < 8)) (h5 : (s.length : Int) < (bt s 4) * 256 + (bt s 5) + (bt s 6) + 8) (h8 : 1 ≤ rt) (h9 : rt ≤ 255) (h10 : ¬ (0 ≤ ri)) : ∀ k r, (k, r) ∈ hy24 → HOk (cx (nuL (nu24 rt ri c rp s n)) (one24 rt ri c rp s n) 1 laidE laidE_stab) k r := by
  have := bt_lo s 0; have := bt_hi s 0
  have := bt_lo s 4; have := bt_hi s 4
  have := bt_lo s 5; have := bt_hi s 5
  have := bt_lo s 6; have := bt_hi s 6
  unfold hy24
  refine hcons (kLenE (isX rfl) (denX rfl) (by first | omega | (simp only [List.length_append, List.length_cons, List.length_nil, List.length_take, List.length_drop, List.length_replicate, Int.natCast_add] at *; omega))) ?_
  refine hcons (kGt (isX rfl) (isZ (m := 3000) rfl) (decide_eq_false (by omega))) ?_
  refine hcons (kLenE (isX rfl) (denX rfl) (by first | omega | (simp only [List.length_append, List.length_cons, List.length_nil, List.length_take, List.length_drop, List.length_replicate, Int.natCast_add] at *; omega))) ?_
  refine hcons (kGt (isX rfl) (isZ (m := 70000) rfl) (decide_eq_false (by omega))) ?_
  refine hcons (kNeS (isX rfl) (isSx (l := ([] : List UInt8)) 0 0 rfl) (bnT (by first | exact nilT (by first | omega | (simp only [List.length_append, List.length_cons, List.length_nil, List.length_take, List.length_drop, List.length_replicate, Int.natCast_add] at *; omega)) | exact nilF (by first | omega | (simp only [List.length_append, List.length_cons, List.length_nil, List.length_take, List.length_drop, List.length_replicate, Int.natCast_add] at *; omega)) | exact nilT' (by first | omega | (simp only [List.length_append, List.length_cons, List.length_nil, List.length_take, List.length_drop, List.length_replicate, Int.natCast_add] at *; omega)) | exact nilF' (by first | omega | (simp only [List.length_append, List.length_cons, List.length_nil, List.length_take, List.length_drop, List.length_replicate, Int.natCast_add] at *; omega))))) ?_
  refine hcons (kIdxE (i := 0) (isX rfl) (isZ (m := 0) rfl) (denX rfl) rfl (by first | omega | (simp only [List.length_append, List.length_cons, List.length_nil, List.length_take, List.length_drop, List.length_replicate, Int.natCast_add] at *; omega)) rfl) ?_
  refine hcons (kNeI (isX rfl) (isZ (m := 1) rfl) (neF (by omega))) ?_
  refine hcons (kLt (isX rfl) (isZ (m := 8) rfl) (decide_eq_false (by omega))) ?_
  refine hcons (kIdxE (i := 4) (isX rfl) (isZ (m := 4) rfl) (denX rfl) rfl (by first | omega | (simp only [List.length_append, List.length_cons, List.length_nil, List.length_take, List.length_drop, List.length_replicate, Int.natCast_add] at *; omega)) rfl) ?_
  refine hcons (kConvF (isX rfl) tu3 (denX rfl) (fI64 (by omega) (by omega))) ?_
  refine hcons (kShlM 8 256 rfl (isX rfl) (isZ (m := 8) rfl) (denX rfl) rfl (by decide) (by omega) (fI64 (by omega) (by omega))) ?_
  refine hcons (kAdd (isZ (m := 8) rfl) (isX rfl) (denX rfl) (by omega) (fI64 (by omega) (by omega))) ?_
  refine hcons (kIdxE (i := 5) (isX rfl) (isZ (m := 5) rfl) (denX rfl) rfl (by first | omega | (simp only [List.length_append, List.length_cons, List.length_nil, List.length_take, List.length_drop, List.length_replicate, Int.natCast_add] at *; omega)) rfl) ?_
  refine hcons (kConvF (isX rfl) tu3 (denX rfl) (fI64 (by omega) (by omega))) ?_
  refine hcons (kAdd (isX rfl) (isX rfl) (denX rfl) (by omega) (fI64 (by omega) (by omega))) ?_
  refine hcons (kIdxE (i := 6) (isX rfl) (isZ (m := 6) rfl) (denX rfl) rfl (by first | omega | (simp only [List.length_append, List.length_cons, List.length_nil, List.length_take, List.length_drop, List.length_replicate, Int.natCast_add] at *; omega)) rfl) ?_
  refine hcons (kConvF (isX rfl) tu3 (denX rfl) (fI64 (by omega) (by omega))) ?_
  refine hcons (kAdd (isX rfl) (isX rfl) (denX rfl) (by omega) (fI64 (by omega) (by omega))) ?_
  refine hcons (kLt (isX rfl) (isX rfl) (decide_eq_true (by omega))) ?_
  refine hcons (kGt (isX rfl) (isZ (m := 0) rfl) (decide_eq_true (by omega))) ?_
  refine hcons (kMul (isX rfl) (isZ (m := 256) rfl) (denX rfl) (by omega) (fI64 (by omega) (by omega))) ?_
  refine hcons (kAdd (isX rfl) (isX rfl) (denX rfl) (by omega) (fI64 (by omega) (by omega))) ?_
  refine hcons (kAdd (isZ (m := 8) rfl) (isX rfl) (denX rfl) (by omega) (fI64 (by omega) (by omega))) ?_
  refine hcons (kAdd (isX rfl) (isX rfl) (denX rfl) (by omega) (fI64 (by omega) (by omega))) ?_
  refine hcons (kLt (isX rfl) (isX rfl) (decide_eq_true (by omega))) ?_
  refine hcons (kGe (isX rfl) (isZ (m := 1) rfl) (decide_eq_true (by omega))) ?_
  refine hcons (kLe (isX rfl) (isZ (m := 255) rfl) (decide_eq_true (by omega))) ?_
  refine hcons (kGe (isX rfl) (isZ (m := 0) rfl) (decide_eq_false (by omega))) ?_
  refine hcons (kEqS (isX rfl) (isX rfl) (decide_eq_true rfl)) ?_
  refine hcons (kMax (isX rfl) (isZ (m := 0) rfl) (denX rfl) rfl) ?_
  refine hcons (kNeg (isX rfl) (denX rfl) (by omega) (fI64 (by omega) (by omega))) ?_
  refine hcons (kAndG 3 8 rfl (by decide) (isX rfl) (isZ (m := 7) rfl) (denX rfl) (fI64 (by omega) (by omega)) rfl rfl (fI64 (by omega) (by omega))) ?_
  refine hcons (kMax (isZ (m := 0) rfl) (isX rfl) (denX rfl) rfl) ?_
  refine hcons (kRem (isX rfl) (isZ (m := 8) rfl) (denX rfl) (by omega) (by omega) rfl) ?_
  refine hcons (kSub (isZ (m := 8) rfl) (isX rfl) (denX rfl) (by omega) (fI64 (by omega) (by omega))) ?_
  refine hcons (kRem (isX rfl) (isZ (m := 8) rfl) (denX rfl) (by omega) (by omega) rfl) ?_
  refine hcons (kEqI (isX rfl) (isX rfl) (decide_eq_true (by omega))) ?_
  exact hnil
theorem path24 (rt : Int) (ri : Int) (c : List UInt8) (rp : Int) (s : List UInt8) (n : Int) (b0 : -9223372036854775808 ≤ rt) (b1 : rt ≤ 9223372036854775807) (b2 : -9223372036854775808 ≤ ri) (b3 : ri ≤ 9223372036854775807) (b4 : c.length ≤ 9223372036854775807) (b5 : -9223372036854775808 ≤ rp) (b6 : rp ≤ 9223372036854775807) (b7 : s.length ≤ 9223372036854775807) (b8 : -9223372036854775808 ≤ n) (b9 : n ≤ 9223372036854775807) (h0 : ¬ (3000 < (s.length : Int))) (h1 : ¬ (70000 < (c.length : Int))) (h2 : ¬ ((s.length : Int) = 0)) (h3 : bt s 0 = 1) (h4 : ¬ ((s.length : Int) < 8)) (h5 : (s.length : Int) < (bt s 4) * 256 + (bt s 5) + (bt s 6) + 8) (h8 : 1 ≤ rt) (h9 : rt ≤ 255) (h10 : ¬ (0 ≤ ri)) (w : World) (hl : laidE w) : Calls Tryd.prog 5 #[.agg #[.int .i64 rt, .int .i64 ri, St' c, .int .i64 rp], St' s, .int .i64 n] w fun e w' => e = .returned (.bool true) ∧ Go.AX.Below w.heap.size w w' := by
  obtain ⟨fi, hfi, hb⟩ : ∃ fi, tabk.fn.get 5 = some fi ∧ fi.body.isSome = true := ⟨_, rfl, by kernel_rfl⟩
  exact runP (tb := tab24) ((tabkOk (nuL (nu24 rt ri c rp s n)) (one24 rt ri c rp s n)).hyps (hyOk24 rt ri c rp s n b0 b1 b2 b3 b4 b5 b6 b7 b8 b9 h0 h1 h2 h3 h4 h5 h8 h9 h10)) rfl hfi hb (fun e => run24 e ) (args := [.agg #[.int .i64 rt, .int .i64 ri, St' c, .int .i64 rp], St' s, .int .i64 n]) (by simp only [RelL, Rel]; exact ⟨_, _, rfl, ⟨_, rfl, ⟨_, _, rfl, rfl, ⟨_, _, rfl, rfl, ⟨_, _, rfl, rfl, ⟨_, _, rfl, rfl, rfl⟩⟩⟩⟩⟩, ⟨_, _, rfl, rfl, ⟨_, _, rfl, rfl, rfl⟩⟩⟩) w hl
def hy25 : List (HK × AV) := [(.len (.x 4), .x 6),
  (.bin .gtr (.x 6) (.i .i64 (.ofNat 3000)), .b false),
  (.len (.x 2), .x 7),
  (.bin .gtr (.x 7) (.i .i64 (.ofNat 70000)), .b false),
  (.bin .neq (.x 4) (.s 0 0), .b false),
  (.bin .lss (.x 6) (.i .i64 (.ofNat 8)), .b true),
  (.bin .gtr (.x 6) (.i .i64 (.ofNat 0)), .b false),
  (.bin .geq (.x 0) (.i .i64 (.ofNat 1)), .b true),
  (.bin .leq (.x 0) (.i .i64 (.ofNat 255)), .b true),
  (.bin .geq (.x 1) (.i .i64 (.ofNat 0)), .b true),
  (.bin .leq (.x 1) (.i .i64 (.ofNat 65535)), .b false),
  (.bin .eql (.x 4) (.x 4), .b true),
  (.mm true (.x 5) (.i .i64 (.ofNat 0)), .x 8),
  (.un .neg (.x 8), .x 9),
  (.bin .and (.x 9) (.i .i64 (.ofNat 7)), .x 10),
  (.mm true (.i .i64 (.ofNat 0)) (.x 5), .x 11),
  (.bin .rem (.x 11) (.i .i64 (.ofNat 8)), .x 12),
  (.bin .sub (.i .i64 (.ofNat 8)) (.x 12), .x 13),
  (.bin .rem (.x 13) (.i .i64 (.ofNat 8)), .x 14),
  (.bin .eql (.x 10) (.x 14), .b true)]
noncomputable def tab25 : Tab := { tabk with hyp := hy25 }
theorem run25 (e : Nat) : okB (call tab25 9000 5 [.ag [.x 0, .x 1, .x 2, .x 3], .x 4, .x 5] ⟨H0 e , 7, 0, 0⟩) = true := by kernel_rfl
def nu25 (rt : Int) (ri : Int) (c : List UInt8) (rp : Int) (s : List UInt8) (n : Int) : List Value := [.int .i64 (rt),
  .int .i64 (ri),
  St' c,
  .int .i64 (rp),
  St' s,
  .int .i64 (n),
  .int .i64 ((s.length : Int)),
  .int .i64 ((c.length : Int)),
  .int .i64 (max n 0),
  .int .i64 (-((max n 0))),
  .int .i64 ((-((max n 0))) % 8),
  .int .i64 (max 0 n),
  .int .i64 ((max 0 n) % 8),
  .int .i64 (8 - ((max 0 n) % 8)),
  .int .i64 ((8 - ((max 0 n) % 8)) % 8)]
theorem one25 (rt : Int) (ri : Int) (c : List UInt8) (rp : Int) (s : List UInt8) (n : Int) : ∀ j, (nuL (nu25 rt ri c rp s n) j).oneCell' = true := nuL_one (l := nu25 rt ri c rp s n) rfl
set_option maxHeartbeats 2000000 in
theorem hyOk25 (rt : Int) (ri : Int) (c : List UInt8) (rp : Int) (s : List UInt8) (n : Int) (b0 : -9223372036854775808 ≤ rt) (b1 : rt ≤ 9223372036854775807) (b2 : -9223372036854775808 ≤ ri) (b3 : ri ≤ 9223372036854775807) (b4 : c.length ≤ 9223372036854775807) (b5 : -9223372036854775808 ≤ rp) (b6 : rp ≤ 9223372036854775807) (b7 : s.length ≤ 9223372036854775807) (b8 : -9223372036854775808 ≤ n) (b9 : n ≤ 9223372036854775807) (h0 : ¬ (3000 < (s.length : Int))) (h1 : ¬ (70000 < (c.length : Int))) (h2 : (s.length : Int) = 0) (h5 : 1 ≤ rt) (h6 : rt ≤ 255) (h7 : 0 ≤ ri) (h8 : ¬ (ri ≤ 65535)) : ∀ k r, (k, r) ∈ hy25 → HOk (cx (nuL (nu25 rt ri c rp s n)) (one25 rt ri c rp s n) 1 laidE laidE_stab) k r := by
  unfold hy25
  refine hcons (kLenE (isX rfl) (denX rfl) (by first | omega | (simp only [List.length_append, List.length_cons, List.length_nil, List.length_take, List.length_drop, List.length_replicate, Int.natCast_add] at *; omega))) ?_
  refine hcons (kGt (isX rfl) (isZ (m := 3000) rfl) (decide_eq_false (by omega))) ?_
  refine hcons (kLenE (isX rfl) (denX rfl) (by first | omega | (simp only [List.length_append, List.length_cons, List.length_nil, List.length_take, List.length_drop, List.length_replicate, Int.natCast_add] at *; omega))) ?_
  refine hcons (kGt (isX rfl) (isZ (m := 70000) rfl) (decide_eq_false (by omega))) ?_
  refine hcons (kNeS (isX rfl) (isSx (l := ([] : List UInt8)) 0 0 rfl) (bnF (by first | exact nilT (by first | omega | (simp only [List.length_append, List.length_cons, List.length_nil, List.length_take, List.length_drop, List.length_replicate, Int.natCast_add] at *; omega)) | exact nilF (by first | omega | (simp only [List.length_append, List.length_cons, List.length_nil, List.length_take, List.length_drop, List.length_replicate, Int.natCast_add] at *; omega)) | exact nilT' (by first | omega | (simp only [List.length_append, List.length_cons, List.length_nil, List.length_take, List.length_drop, List.length_replicate, Int.natCast_add] at *; omega)) | exact nilF' (by first | omega | (simp only [List.length_append, List.length_cons, List.length_nil, List.length_take, List.length_drop, List.length_replicate, Int.natCast_add] at *; omega))))) ?_
  refine hcons (kLt (isX rfl) (isZ (m := 8) rfl) (decide_eq_true (by omega))) ?_
  refine hcons (kGt (isX rfl) (isZ (m := 0) rfl) (decide_eq_false (by omega))) ?_
  refine hcons (kGe (isX rfl) (isZ (m := 1) rfl) (decide_eq_true (by omega))) ?_
  refine hcons (kLe (isX rfl) (isZ (m := 255) rfl) (decide_eq_true (by omega))) ?_
  refine hcons (kGe (isX rfl) (isZ (m := 0) rfl) (decide_eq_true (by omega))) ?_
  refine hcons (kLe (isX rfl) (isZ (m := 65535) rfl) (decide_eq_false (by omega))) ?_
  refine hcons (kEqS (isX rfl) (isX rfl) (decide_eq_true rfl)) ?_
  refine hcons (kMax (isX rfl) (isZ (m := 0) rfl) (denX rfl) rfl) ?_
  refine hcons (kNeg (isX rfl) (denX rfl) (by omega) (fI64 (by omega) (by omega))) ?_
  refine hcons (kAndG 3 8 rfl (by decide) (isX rfl) (isZ (m := 7) rfl) (denX rfl) (fI64 (by omega) (by omega)) rfl rfl (fI64 (by omega) (by omega))) ?_
  refine hcons (kMax (isZ (m := 0) rfl) (isX rfl) (denX rfl) rfl) ?_
  refine hcons (kRem (isX rfl) (isZ (m := 8) rfl) (denX rfl) (by omega) (by omega) rfl) ?_
  refine hcons (kSub (isZ (m := 8) rfl) (isX rfl) (denX rfl) (by omega) (fI64 (by omega) (by omega))) ?_
  refine hcons (kRem (isX rfl) (isZ (m := 8) rfl) (denX rfl) (by omega) (by omega) rfl) ?_
  refine hcons (kEqI (isX rfl) (isX rfl) (decide_eq_true (by omega))) ?_
  exact hnil
theorem path25 (rt : Int) (ri : Int) (c : List UInt8) (rp : Int) (s : List UInt8) (n : Int) (b0 : -9223372036854775808 ≤ rt) (b1 : rt ≤ 9223372036854775807) (b2 : -9223372036854775808 ≤ ri) (b3 : ri ≤ 9223372036854775807) (b4 : c.length ≤ 9223372036854775807) (b5 : -9223372036854775808 ≤ rp) (b6 : rp ≤ 9223372036854775807) (b7 : s.length ≤ 9223372036854775807) (b8 : -9223372036854775808 ≤ n) (b9 : n ≤ 9223372036854775807) (h0 : ¬ (3000 < (s.length : Int))) (h1 : ¬ (70000 < (c.length : Int))) (h2 : (s.length : Int) = 0) (h5 : 1 ≤ rt) (h6 : rt ≤ 255) (h7 : 0 ≤ ri) (h8 : ¬ (ri ≤ 65535)) (w : World) (hl : laidE w) : Calls Tryd.prog 5 #[.agg #[.int .i64 rt, .int .i64 ri, St' c, .int .i64 rp], St' s, .int .i64 n] w fun e w' => e = .returned (.bool true) ∧ Go.AX.Below w.heap.size w w' := by
  obtain ⟨fi, hfi, hb⟩ : ∃ fi, tabk.fn.get 5 = some fi ∧ fi.body.isSome = true := ⟨_, rfl, by kernel_rfl⟩
  exact runP (tb := tab25) ((tabkOk (nuL (nu25 rt ri c rp s n)) (one25 rt ri c rp s n)).hyps (hyOk25 rt ri c rp s n b0 b1 b2 b3 b4 b5 b6 b7 b8 b9 h0 h1 h2 h5 h6 h7 h8)) rfl hfi hb (fun e => run25 e ) (args := [.agg #[.int .i64 rt, .int .i64 ri, St' c, .int .i64 rp], St' s, .int .i64 n]) (by simp only [RelL, Rel]; exact ⟨_, _, rfl, ⟨_, rfl, ⟨_, _, rfl, rfl, ⟨_, _, rfl, rfl, ⟨_, _, rfl, rfl, ⟨_, _, rfl, rfl, rfl⟩⟩⟩⟩⟩, ⟨_, _, rfl, rfl, ⟨_, _, rfl, rfl, rfl⟩⟩⟩) w hl
def hy26 : List (HK × AV) := [(.len (.x 4), .x 6),
  (.bin .gtr (.x 6) (.i .i64 (.ofNat 3000)), .b false),
  (.len (.x 2), .x 7),
  (.bin .gtr (.x 7) (.i .i64 (.ofNat 70000)), .b false),
  (.bin .neq (.x 4) (.s 0 0), .b true),
  (.idx (.x 4) (.i .i64 (.ofNat 0)), .x 8),
  (.bin .neq (.x 8) (.i .u8 (.ofNat 1)), .b true),
  (.bin .gtr (.x 6) (.i .i64 (.ofNat 0)), .b true),
  (.bin .geq (.x 0) (.i .i64 (.ofNat 1)), .b true),
  (.bin .leq (.x 0) (.i .i64 (.ofNat 255)), .b true),
  (.bin .geq (.x 1) (.i .i64 (.ofNat 0)), .b true),
  (.bin .leq (.x 1) (.i .i64 (.ofNat 65535)), .b false),
  (.bin .eql (.x 4) (.x 4), .b true),
  (.mm true (.x 5) (.i .i64 (.ofNat 0)), .x 9),
  (.un .neg (.x 9), .x 10),
  (.bin .and (.x 10) (.i .i64 (.ofNat 7)), .x 11),
  (.mm true (.i .i64 (.ofNat 0)) (.x 5), .x 12),
  (.bin .rem (.x 12) (.i .i64 (.ofNat 8)), .x 13),
  (.bin .sub (.i .i64 (.ofNat 8)) (.x 13), .x 14),
  (.bin .rem (.x 14) (.i .i64 (.ofNat 8)), .x 15),
  (.bin .eql (.x 11) (.x 15), .b true)]
noncomputable def tab26 : Tab := { tabk with hyp := hy26 }
theorem run26 (e : Nat) : okB (call tab26 9000 5 [.ag [.x 0, .x 1, .x 2, .x 3], .x 4, .x 5] ⟨H0 e , 7, 0, 0⟩) = true := by kernel_rfl
def nu26 (rt : Int) (ri : Int) (c : List UInt8) (rp : Int) (s : List UInt8) (n : Int) : List Value := [.int .i64 (rt),
  .int .i64 (ri),
  St' c,
  .int .i64 (rp),
  St' s,
  .int .i64 (n),
  .int .i64 ((s.length : Int)),
  .int .i64 ((c.length : Int)),
  .int .u8 (bt s 0),
  .int .i64 (max n 0),
  .int .i64 (-((max n 0))),
  .int .i64 ((-((max n 0))) % 8),
  .int .i64 (max 0 n),
  .int .i64 ((max 0 n) % 8),
  .int .i64 (8 - ((max 0 n) % 8)),
  .int .i64 ((8 - ((max 0 n) % 8)) % 8)]
theorem one26 (rt : Int) (ri : Int) (c : List UInt8) (rp : Int) (s : List UInt8) (n : Int) : ∀ j, (nuL (nu26 rt ri c rp s n) j).oneCell' = true := nuL_one (l := nu26 rt ri c rp s n) rfl
set_option maxHeartbeats 2000000 in
theorem hyOk26 (rt : Int) (ri : Int) (c : List UInt8) (rp : Int) (s : List UInt8) (n : Int) (b0 : -9223372036854775808 ≤ rt) (b1 : rt ≤ 9223372036854775807) (b2 : -9223372036854775808 ≤ ri) (b3 : ri ≤ 9223372036854775807) (b4 : c.length ≤ 9223372036854775807) (b5 : -9223372036854775808 ≤ rp) (b6 : rp ≤ 9223372036854775807) (b7 : s.length ≤ 9223372036854775807) (b8 : -9223372036854775808 ≤ n) (b9 : n ≤ 9223372036854775807) (h0 : ¬ (3000 < (s.length : Int))) (h1 : ¬ (70000 < (c.length : Int))) (h2 : ¬ ((s.length : Int) = 0)) (h3 : ¬ (bt s 0 = 1)) (h5 : 1 ≤ rt) (h6 : rt ≤ 255) (h7 : 0 ≤ ri) (h8 : ¬ (ri ≤ 65535)) : ∀ k r, (k, r) ∈ hy26 → HOk (cx (nuL (nu26 rt ri c rp s n)) (one26 rt ri c rp s n) 1 laidE laidE_stab) k r := by
  have := bt_lo s 0; have := bt_hi s 0
  unfold hy26
  refine hcons (kLenE (isX rfl) (denX rfl) (by first | omega | (simp only [List.length_append, List.length_cons, List.length_nil, List.length_take, List.length_drop, List.length_replicate, Int.natCast_add] at *; omega))) ?_
  refine hcons (kGt (isX rfl) (isZ (m := 3000) rfl) (decide_eq_false (by omega))) ?_
  refine hcons (kLenE (isX rfl) (denX rfl) (by first | omega | (simp only [List.length_append, List.length_cons, List.length_nil, List.length_take, List.length_drop, List.length_replicate, Int.natCast_add] at *; omega))) ?_
  refine hcons (kGt (isX rfl) (isZ (m := 70000) rfl) (decide_eq_false (by omega))) ?_
  refine hcons (kNeS (isX rfl) (isSx (l := ([] : List UInt8)) 0 0 rfl) (bnT (by first | exact nilT (by first | omega | (simp only [List.length_append, List.length_cons, List.length_nil, List.length_take, List.length_drop, List.length_replicate, Int.natCast_add] at *; omega)) | exact nilF (by first | omega | (simp only [List.length_append, List.length_cons, List.length_nil, List.length_take, List.length_drop, List.length_replicate, Int.natCast_add] at *; omega)) | exact nilT' (by first | omega | (simp only [List.length_append, List.length_cons, List.length_nil, List.length_take, List.length_drop, List.length_replicate, Int.natCast_add] at *; omega)) | exact nilF' (by first | omega | (simp only [List.length_append, List.length_cons, List.length_nil, List.length_take, List.length_drop, List.length_replicate, Int.natCast_add] at *; omega))))) ?_
  refine hcons (kIdxE (i := 0) (isX rfl) (isZ (m := 0) rfl) (denX rfl) rfl (by first | omega | (simp only [List.length_append, List.length_cons, List.length_nil, List.length_take, List.length_drop, List.length_replicate, Int.natCast_add] at *; omega)) rfl) ?_
  refine hcons (kNeI (isX rfl) (isZ (m := 1) rfl) (neT (by omega))) ?_
  refine hcons (kGt (isX rfl) (isZ (m := 0) rfl) (decide_eq_true (by omega))) ?_
  refine hcons (kGe (isX rfl) (isZ (m := 1) rfl) (decide_eq_true (by omega))) ?_
  refine hcons (kLe (isX rfl) (isZ (m := 255) rfl) (decide_eq_true (by omega))) ?_
  refine hcons (kGe (isX rfl) (isZ (m := 0) rfl) (decide_eq_true (by omega))) ?_
  refine hcons (kLe (isX rfl) (isZ (m := 65535) rfl) (decide_eq_false (by omega))) ?_
  refine hcons (kEqS (isX rfl) (isX rfl) (decide_eq_true rfl)) ?_
  refine hcons (kMax (isX rfl) (isZ (m := 0) rfl) (denX rfl) rfl) ?_
  refine hcons (kNeg (isX rfl) (denX rfl) (by omega) (fI64 (by omega) (by omega))) ?_
  refine hcons (kAndG 3 8 rfl (by decide) (isX rfl) (isZ (m := 7) rfl) (denX rfl) (fI64 (by omega) (by omega)) rfl rfl (fI64 (by omega) (by omega))) ?_
  refine hcons (kMax (isZ (m := 0) rfl) (isX rfl) (denX rfl) rfl) ?_
  refine hcons (kRem (isX rfl) (isZ (m := 8) rfl) (denX rfl) (by omega) (by omega) rfl) ?_
  refine hcons (kSub (isZ (m := 8) rfl) (isX rfl) (denX rfl) (by omega) (fI64 (by omega) (by omega))) ?_
  refine hcons (kRem (isX rfl) (isZ (m := 8) rfl) (denX rfl) (by omega) (by omega) rfl) ?_
  refine hcons (kEqI (isX rfl) (isX rfl) (decide_eq_true (by omega))) ?_
  exact hnil
theorem path26 (rt : Int) (ri : Int) (c : List UInt8) (rp : Int) (s : List UInt8) (n : Int) (b0 : -9223372036854775808 ≤ rt) (b1 : rt ≤ 9223372036854775807) (b2 : -9223372036854775808 ≤ ri) (b3 : ri ≤ 9223372036854775807) (b4 : c.length ≤ 9223372036854775807) (b5 : -9223372036854775808 ≤ rp) (b6 : rp ≤ 9223372036854775807) (b7 : s.length ≤ 9223372036854775807) (b8 : -9223372036854775808 ≤ n) (b9 : n ≤ 9223372036854775807) (h0 : ¬ (3000 < (s.length : Int))) (h1 : ¬ (70000 < (c.length : Int))) (h2 : ¬ ((s.length : Int) = 0)) (h3 : ¬ (bt s 0 = 1)) (h5 : 1 ≤ rt) (h6 : rt ≤ 255) (h7 : 0 ≤ ri) (h8 : ¬ (ri ≤ 65535)) (w : World) (hl : laidE w) : Calls Tryd.prog 5 #[.agg #[.int .i64 rt, .int .i64 ri, St' c, .int .i64 rp], St' s, .int .i64 n] w fun e w' => e = .returned (.bool true) ∧ Go.AX.Below w.heap.size w w' := by
  obtain ⟨fi, hfi, hb⟩ : ∃ fi, tabk.fn.get 5 = some fi ∧ fi.body.isSome = true := ⟨_, rfl, by kernel_rfl⟩
  exact runP (tb := tab26) ((tabkOk (nuL (nu26 rt ri c rp s n)) (one26 rt ri c rp s n)).hyps (hyOk26 rt ri c rp s n b0 b1 b2 b3 b4 b5 b6 b7 b8 b9 h0 h1 h2 h3 h5 h6 h7 h8)) rfl hfi hb (fun e => run26 e ) (args := [.agg #[.int .i64 rt, .int .i64 ri, St' c, .int .i64 rp], St' s, .int .i64 n]) (by simp only [RelL, Rel]; exact ⟨_, _, rfl, ⟨_, rfl, ⟨_, _, rfl, rfl, ⟨_, _, rfl, rfl, ⟨_, _, rfl, rfl, ⟨_, _, rfl, rfl, rfl⟩⟩⟩⟩⟩, ⟨_, _, rfl, rfl, ⟨_, _, rfl, rfl, rfl⟩⟩⟩) w hl
def hy27 : List (HK × AV) := [(.len (.x 4), .x 6),
  (.bin .gtr (.x 6) (.i .i64 (.ofNat 3000)), .b false),
  (.len (.x 2), .x 7),
  (.bin .gtr (.x 7) (.i .i64 (.ofNat 70000)), .b false),
  (.bin .neq (.x 4) (.s 0 0), .b true),
  (.idx (.x 4) (.i .i64 (.ofNat 0)), .x 8),
  (.bin .neq (.x 8) (.i .u8 (.ofNat 1)), .b false),
  (.bin .lss (.x 6) (.i .i64 (.ofNat 8)), .b true),
  (.bin .gtr (.x 6) (.i .i64 (.ofNat 0)), .b true),
  (.bin .geq (.x 0) (.i .i64 (.ofNat 1)), .b true),
  (.bin .leq (.x 0) (.i .i64 (.ofNat 255)), .b true),
  (.bin .geq (.x 1) (.i .i64 (.ofNat 0)), .b true),
  (.bin .leq (.x 1) (.i .i64 (.ofNat 65535)), .b false),
  (.bin .eql (.x 4) (.x 4), .b true),
  (.mm true (.x 5) (.i .i64 (.ofNat 0)), .x 9),
  (.un .neg (.x 9), .x 10),
  (.bin .and (.x 10) (.i .i64 (.ofNat 7)), .x 11),
  (.mm true (.i .i64 (.ofNat 0)) (.x 5), .x 12),
  (.bin .rem (.x 12) (.i .i64 (.ofNat 8)), .x 13),
  (.bin .sub (.i .i64 (.ofNat 8)) (.x 13), .x 14),
  (.bin .rem (.x 14) (.i .i64 (.ofNat 8)), .x 15),
  (.bin .eql (.x 11) (.x 15), .b true)]
noncomputable def tab27 : Tab := { tabk with hyp := hy27 }
theorem run27 (e : Nat) : okB (call tab27 9000 5 [.ag [.x 0, .x 1, .x 2, .x 3], .x 4, .x 5] ⟨H0 e , 7, 0, 0⟩) = true := by kernel_rfl
def nu27 (rt : Int) (ri : Int) (c : List UInt8) (rp : Int) (s : List UInt8) (n : Int) : List Value := [.int .i64 (rt),
  .int .i64 (ri),
  St' c,
  .int .i64 (rp),
  St' s,
  .int .i64 (n),
  .int .i64 ((s.length : Int)),
  .int .i64 ((c.length : Int)),
  .int .u8 (bt s 0),
  .int .i64 (max n 0),
  .int .i64 (-((max n 0))),
  .int .i64 ((-((max n 0))) % 8),
  .int .i64 (max 0 n),
  .int .i64 ((max 0 n) % 8),
  .int .i64 (8 - ((max 0 n) % 8)),
  .int .i64 ((8 - ((max 0 n) % 8)) % 8)]
theorem one27 (rt : Int) (ri : Int) (c : List UInt8) (rp : Int) (s : List UInt8) (n : Int) : ∀ j, (nuL (nu27 rt ri c rp s n) j).oneCell' = true := nuL_one (l := nu27 rt ri c rp s n) rfl
set_option maxHeartbeats 2000000 in
theorem hyOk27 (rt : Int) (ri : Int) (c : List UInt8) (rp : Int) (s : List UInt8) (n : Int) (b0 : -9223372036854775808 ≤ rt) (b1 : rt ≤ 9223372036854775807) (b2 : -9223372036854775808 ≤ ri) (b3 : ri ≤ 9223372036854775807) (b4 : c.length ≤ 9223372036854775807) (b5 : -9223372036854775808 ≤ rp) (b6 : rp ≤ 9223372036854775807) (b7 : s.length ≤ 9223372036854775807) (b8 : -9223372036854775808 ≤ n) (b9 : n ≤ 9223372036854775807) (h0 : ¬ (3000 < (s.length : Int))) (h1 : ¬ (70000 < (c.length : Int))) (h2 : ¬ ((s.length : Int) = 0)) (h3 : bt s 0 = 1) (h4 : (s.length : Int) < 8) (h6 : 1 ≤ rt) (h7 : rt ≤ 255) (h8 : 0 ≤ ri) (h9 : ¬ (ri ≤ 65535)) : ∀ k r, (k, r) ∈ hy27 → HOk (cx (nuL (nu27 rt ri c rp s n)) (one27 rt ri c rp s n) 1 laidE laidE_stab) k r := by
  have := bt_lo s 0; have := bt_hi s 0
  unfold hy27
  refine hcons (kLenE (isX rfl) (denX rfl) (by first | omega | (simp only [List.length_append, List.length_cons, List.length_nil, List.length_take, List.length_drop, List.length_replicate, Int.natCast_add] at *; omega))) ?_
  refine hcons (kGt (isX rfl) (isZ (m := 3000) rfl) (decide_eq_false (by omega))) ?_
  refine hcons (kLenE (isX rfl) (denX rfl) (by first | omega | (simp only [List.length_append, List.length_cons, List.length_nil, List.length_take, List.length_drop, List.length_replicate, Int.natCast_add] at *; omega))) ?_
  refine hcons (kGt (isX rfl) (isZ (m := 70000) rfl) (decide_eq_false (by omega))) ?_
  refine hcons (kNeS (isX rfl) (isSx (l := ([] : List UInt8)) 0 0 rfl) (bnT (by first | exact nilT (by first | omega | (simp only [List.length_append, List.length_cons, List.length_nil, List.length_take, List.length_drop, List.length_replicate, Int.natCast_add] at *; omega)) | exact nilF (by first | omega | (simp only [List.length_append, List.length_cons, List.length_nil, List.length_take, List.length_drop, List.length_replicate, Int.natCast_add] at *; omega)) | exact nilT' (by first | omega | (simp only [List.length_append, List.length_cons, List.length_nil, List.length_take, List.length_drop, List.length_replicate, Int.natCast_add] at *; omega)) | exact nilF' (by first | omega | (simp only [List.length_append, List.length_cons, List.length_nil, List.length_take, List.length_drop, List.length_replicate, Int.natCast_add] at *; omega))))) ?_
  refine hcons (kIdxE (i := 0) (isX rfl) (isZ (m := 0) rfl) (denX rfl) rfl (by first | omega | (simp only [List.length_append, List.length_cons, List.length_nil, List.length_take, List.length_drop, List.length_replicate, Int.natCast_add] at *; omega)) rfl) ?_
  refine hcons (kNeI (isX rfl) (isZ (m := 1) rfl) (neF (by omega))) ?_
  refine hcons (kLt (isX rfl) (isZ (m := 8) rfl) (decide_eq_true (by omega))) ?_
  refine hcons (kGt (isX rfl) (isZ (m := 0) rfl) (decide_eq_true (by omega))) ?_
  refine hcons (kGe (isX rfl) (isZ (m := 1) rfl) (decide_eq_true (by omega))) ?_
  refine hcons (kLe (isX rfl) (isZ (m := 255) rfl) (decide_eq_true (by omega))) ?_
  refine hcons (kGe (isX rfl) (isZ (m := 0) rfl) (decide_eq_true (by omega))) ?_
  refine hcons (kLe (isX rfl) (isZ (m := 65535) rfl) (decide_eq_false (by omega))) ?_
  refine hcons (kEqS (isX rfl) (isX rfl) (decide_eq_true rfl)) ?_
  refine hcons (kMax (isX rfl) (isZ (m := 0) rfl) (denX rfl) rfl) ?_
  refine hcons (kNeg (isX rfl) (denX rfl) (by omega) (fI64 (by omega) (by omega))) ?_
  refine hcons (kAndG 3 8 rfl (by decide) (isX rfl) (isZ (m := 7) rfl) (denX rfl) (fI64 (by omega) (by omega)) rfl rfl (fI64 (by omega) (by omega))) ?_
  refine hcons (kMax (isZ (m := 0) rfl) (isX rfl) (denX rfl) rfl) ?_
  refine hcons (kRem (isX rfl) (isZ (m := 8) rfl) (denX rfl) (by omega) (by omega) rfl) ?_
  refine hcons (kSub (isZ (m := 8) rfl) (isX rfl) (denX rfl) (by omega) (fI64 (by omega) (by omega))) ?_
  refine hcons (kRem (isX rfl) (isZ (m := 8) rfl) (denX rfl) (by omega) (by omega) rfl) ?_
  refine hcons (kEqI (isX rfl) (isX rfl) (decide_eq_true (by omega))) ?_
  exact hnil
theorem path27 (rt : Int) (ri : Int) (c : List UInt8) (rp : Int) (s : List UInt8) (n : Int) (b0 : -9223372036854775808 ≤ rt) (b1 : rt ≤ 9223372036854775807) (b2 : -9223372036854775808 ≤ ri) (b3 : ri ≤ 9223372036854775807) (b4 : c.length ≤ 9223372036854775807) (b5 : -9223372036854775808 ≤ rp) (b6 : rp ≤ 9223372036854775807) (b7 : s.length ≤ 9223372036854775807) (b8 : -9223372036854775808 ≤ n) (b9 : n ≤ 9223372036854775807) (h0 : ¬ (3000 < (s.length : Int))) (h1 : ¬ (70000 < (c.length : Int))) (h2 : ¬ ((s.length : Int) = 0)) (h3 : bt s 0 = 1) (h4 : (s.length : Int) < 8) (h6 : 1 ≤ rt) (h7 : rt ≤ 255) (h8 : 0 ≤ ri) (h9 : ¬ (ri ≤ 65535)) (w : World) (hl : laidE w) : Calls Tryd.prog 5 #[.agg #[.int .i64 rt, .int .i64 ri, St' c, .int .i64 rp], St' s, .int .i64 n] w fun e w' => e = .returned (.bool true) ∧ Go.AX.Below w.heap.size w w' := by
  obtain ⟨fi, hfi, hb⟩ : ∃ fi, tabk.fn.get 5 = some fi ∧ fi.body.isSome = true := ⟨_, rfl, by kernel_rfl⟩
  exact runP (tb := tab27) ((tabkOk (nuL (nu27 rt ri c rp s n)) (one27 rt ri c rp s n)).hyps (hyOk27 rt ri c rp s n b0 b1 b2 b3 b4 b5 b6 b7 b8 b9 h0 h1 h2 h3 h4 h6 h7 h8 h9)) rfl hfi hb (fun e => run27 e ) (args := [.agg #[.int .i64 rt, .int .i64 ri, St' c, .int .i64 rp], St' s, .int .i64 n]) (by simp only [RelL, Rel]; exact ⟨_, _, rfl, ⟨_, rfl, ⟨_, _, rfl, rfl, ⟨_, _, rfl, rfl, ⟨_, _, rfl, rfl, ⟨_, _, rfl, rfl, rfl⟩⟩⟩⟩⟩, ⟨_, _, rfl, rfl, ⟨_, _, rfl, rfl, rfl⟩⟩⟩) w hl
def hy28 : List (HK × AV) := [(.len (.x 4), .x 6),
  (.bin .gtr (.x 6) (.i .i64 (.ofNat 3000)), .b false),
  (.len (.x 2), .x 7),
  (.bin .gtr (.x 7) (.i .i64 (.ofNat 70000)), .b false),
  (.bin .neq (.x 4) (.s 0 0), .b true),
  (.idx (.x 4) (.i .i64 (.ofNat 0)), .x 8),
  (.bin .neq (.x 8) (.i .u8 (.ofNat 1)), .b false),
  (.bin .lss (.x 6) (.i .i64 (.ofNat 8)), .b false),
  (.idx (.x 4) (.i .i64 (.ofNat 4)), .x 9),
  (.conv 3 (.x 9), .x 10),
  (.bin .shl (.x 10) (.i .u64 (.ofNat 8)), .x 11),
  (.bin .add (.i .i64 (.ofNat 8)) (.x 11), .x 12),
  (.idx (.x 4) (.i .i64 (.ofNat 5)), .x 13),
  (.conv 3 (.x 13), .x 14),
  (.bin .add (.x 12) (.x 14), .x 15),
  (.idx (.x 4) (.i .i64 (.ofNat 6)), .x 16),
  (.conv 3 (.x 16), .x 17),
  (.bin .add (.x 15) (.x 17), .x 18),
  (.bin .lss (.x 6) (.x 18), .b false),
  (.idx (.x 4) (.i .i64 (.ofNat 1)), .x 19),
  (.bin .eql (.x 19) (.i .u8 (.ofNat 0)), .b false),
  (.conv 3 (.x 19), .x 20),
  (.idx (.x 4) (.i .i64 (.ofNat 2)), .x 21),
  (.conv 3 (.x 21), .x 22),
  (.bin .shl (.x 22) (.i .u64 (.ofNat 8)), .x 23),
  (.idx (.x 4) (.i .i64 (.ofNat 3)), .x 24),
  (.conv 3 (.x 24), .x 25),
  (.bin .or (.x 23) (.x 25), .x 26),
  (.bin .sub (.x 18) (.x 17), .x 27),
  (.sub (.x 4) (some (.i .i64 (.ofNat 8))) (some (.x 27)), .x 28),
  (.sub (.x 4) (some (.x 18)) none, .x 29),
  (.bin .gtr (.x 6) (.i .i64 (.ofNat 0)), .b true),
  (.bin .mul (.x 10) (.i .i64 (.ofNat 256)), .x 30),
  (.bin .add (.x 30) (.x 14), .x 31),
  (.bin .add (.i .i64 (.ofNat 8)) (.x 31), .x 32),
  (.bin .add (.x 32) (.x 17), .x 33),
  (.bin .lss (.x 6) (.x 33), .b false),
  (.bin .mul (.x 22) (.i .i64 (.ofNat 256)), .x 34),
  (.bin .add (.x 34) (.x 25), .x 35),
  (.sub (.x 4) (some (.i .i64 (.ofNat 8))) (some (.x 32)), .x 36),
  (.sub (.x 4) (some (.x 33)) none, .x 37),
  (.bin .geq (.x 0) (.i .i64 (.ofNat 1)), .b true),
  (.bin .leq (.x 0) (.i .i64 (.ofNat 255)), .b true),
  (.bin .geq (.x 1) (.i .i64 (.ofNat 0)), .b true),
  (.bin .leq (.x 1) (.i .i64 (.ofNat 65535)), .b false),
  (.eq 3 (.x 20) (.x 20), .b true),
  (.eq 3 (.x 26) (.x 35), .b true),
  (.eq 9 (.x 28) (.x 36), .b true),
  (.eq 3 (.x 17) (.x 17), .b true),
  (.bin .eql (.x 29) (.x 37), .b true),
  (.mm true (.x 5) (.i .i64 (.ofNat 0)), .x 38),
  (.un .neg (.x 38), .x 39),
  (.bin .and (.x 39) (.i .i64 (.ofNat 7)), .x 40),
  (.mm true (.i .i64 (.ofNat 0)) (.x 5), .x 41),
  (.bin .rem (.x 41) (.i .i64 (.ofNat 8)), .x 42),
  (.bin .sub (.i .i64 (.ofNat 8)) (.x 42), .x 43),
  (.bin .rem (.x 43) (.i .i64 (.ofNat 8)), .x 44),
  (.bin .eql (.x 40) (.x 44), .b true)]
noncomputable def tab28 : Tab := { tabk with hyp := hy28 }
theorem run28 (e : Nat) : okB (call tab28 9000 5 [.ag [.x 0, .x 1, .x 2, .x 3], .x 4, .x 5] ⟨H0 e , 7, 0, 0⟩) = true := by kernel_rfl
def nu28 (rt : Int) (ri : Int) (c : List UInt8) (rp : Int) (s : List UInt8) (n : Int) : List Value := [.int .i64 (rt),
  .int .i64 (ri),
  St' c,
  .int .i64 (rp),
  St' s,
  .int .i64 (n),
  .int .i64 ((s.length : Int)),
  .int .i64 ((c.length : Int)),
  .int .u8 (bt s 0),
  .int .u8 (bt s 4),
  .int .i64 ((bt s 4)),
  .int .i64 ((bt s 4) * 256),
  .int .i64 ((bt s 4) * 256 + 8),
  .int .u8 (bt s 5),
  .int .i64 ((bt s 5)),
  .int .i64 ((bt s 4) * 256 + (bt s 5) + 8),
  .int .u8 (bt s 6),
  .int .i64 ((bt s 6)),
  .int .i64 ((bt s 4) * 256 + (bt s 5) + (bt s 6) + 8),
  .int .u8 (bt s 1),
  .int .i64 ((bt s 1)),
  .int .u8 (bt s 2),
  .int .i64 ((bt s 2)),
  .int .i64 ((bt s 2) * 256),
  .int .u8 (bt s 3),
  .int .i64 ((bt s 3)),
  .int .i64 ((bt s 2) * 256 + (bt s 3)),
  .int .i64 ((bt s 4) * 256 + (bt s 5) + 8),
  St' ((List.take ((bt s 4) * 256 + (bt s 5) + 8 - (8)).toNat (List.drop (Int.toNat 8) s))),
  St' ((List.take ((s.length : Int) - ((bt s 4) * 256 + (bt s 5) + (bt s 6) + 8)).toNat (List.drop ((bt s 4) * 256 + (bt s 5) + (bt s 6) + 8).toNat s))),
  .int .i64 ((bt s 4) * 256),
  .int .i64 ((bt s 4) * 256 + (bt s 5)),
  .int .i64 ((bt s 4) * 256 + (bt s 5) + 8),
  .int .i64 ((bt s 4) * 256 + (bt s 5) + (bt s 6) + 8),
  .int .i64 ((bt s 2) * 256),
  .int .i64 ((bt s 2) * 256 + (bt s 3)),
  St' ((List.take ((bt s 4) * 256 + (bt s 5) + 8 - (8)).toNat (List.drop (Int.toNat 8) s))),
  St' ((List.take ((s.length : Int) - ((bt s 4) * 256 + (bt s 5) + (bt s 6) + 8)).toNat (List.drop ((bt s 4) * 256 + (bt s 5) + (bt s 6) + 8).toNat s))),
  .int .i64 (max n 0),
  .int .i64 (-((max n 0))),
  .int .i64 ((-((max n 0))) % 8),
  .int .i64 (max 0 n),
  .int .i64 ((max 0 n) % 8),
  .int .i64 (8 - ((max 0 n) % 8)),
  .int .i64 ((8 - ((max 0 n) % 8)) % 8)]
theorem one28 (rt : Int) (ri : Int) (c : List UInt8) (rp : Int) (s : List UInt8) (n : Int) : ∀ j, (nuL (nu28 rt ri c rp s n) j).oneCell' = true := nuL_one (l := nu28 rt ri c rp s n) rfl
set_option maxHeartbeats 2000000 in
theorem hyOk28 (rt : Int) (ri : Int) (c : List UInt8) (rp : Int) (s : List UInt8) (n : Int) (b0 : -9223372036854775808 ≤ rt) (b1 : rt ≤ 9223372036854775807) (b2 : -9223372036854775808 ≤ ri) (b3 : ri ≤ 9223372036854775807) (b4 : c.length ≤ 9223372036854775807) (b5 : -9223372036854775808 ≤ rp) (b6 : rp ≤ 9223372036854775807) (b7 : s.length ≤ 9223372036854775807) (b8 : -9223372036854775808 ≤ n) (b9 : n ≤ 9223372036854775807) (h0 : ¬ (3000 < (s.length : Int))) (h1 : ¬ (70000 < (c.length : Int))) (h2 : ¬ ((s.length : Int) = 0)) (h3 : bt s 0 = 1) (h4 : ¬ ((s.length : Int) < 8)) (h5 : ¬ ((s.length : Int) < (bt s 4) * 256 + (bt s 5) + (bt s 6) + 8)) (h6 : ¬ (bt s 1 = 0)) (h9 : 1 ≤ rt) (h10 : rt ≤ 255) (h11 : 0 ≤ ri) (h12 : ¬ (ri ≤ 65535)) : ∀ k r, (k, r) ∈ hy28 → HOk (cx (nuL (nu28 rt ri c rp s n)) (one28 rt ri c rp s n) 1 laidE laidE_stab) k r := by
  have := bt_lo s 0; have := bt_hi s 0
  have := bt_lo s 4; have := bt_hi s 4
  have := bt_lo s 5; have := bt_hi s 5
  have := bt_lo s 6; have := bt_hi s 6
  have := bt_lo s 1; have := bt_hi s 1
  have := bt_lo s 2; have := bt_hi s 2
  have := bt_lo s 3; have := bt_hi s 3
  unfold hy28
  refine hcons (kLenE (isX rfl) (denX rfl) (by first | omega | (simp only [List.length_append, List.length_cons, List.length_nil, List.length_take, List.length_drop, List.length_replicate, Int.natCast_add] at *; omega))) ?_
  refine hcons (kGt (isX rfl) (isZ (m := 3000) rfl) (decide_eq_false (by omega))) ?_
  refine hcons (kLenE (isX rfl) (denX rfl) (by first | omega | (simp only [List.length_append, List.length_cons, List.length_nil, List.length_take, List.length_drop, List.length_replicate, Int.natCast_add] at *; omega))) ?_
  refine hcons (kGt (isX rfl) (isZ (m := 70000) rfl) (decide_eq_false (by omega))) ?_
  refine hcons (kNeS (isX rfl) (isSx (l := ([] : List UInt8)) 0 0 rfl) (bnT (by first | exact nilT (by first | omega | (simp only [List.length_append, List.length_cons, List.length_nil, List.length_take, List.length_drop, List.length_replicate, Int.natCast_add] at *; omega)) | exact nilF (by first | omega | (simp only [List.length_append, List.length_cons, List.length_nil, List.length_take, List.length_drop, List.length_replicate, Int.natCast_add] at *; omega)) | exact nilT' (by first | omega | (simp only [List.length_append, List.length_cons, List.length_nil, List.length_take, List.length_drop, List.length_replicate, Int.natCast_add] at *; omega)) | exact nilF' (by first | omega | (simp only [List.length_append, List.length_cons, List.length_nil, List.length_take, List.length_drop, List.length_replicate, Int.natCast_add] at *; omega))))) ?_
  refine hcons (kIdxE (i := 0) (isX rfl) (isZ (m := 0) rfl) (denX rfl) rfl (by first | omega | (simp only [List.length_append, List.length_cons, List.length_nil, List.length_take, List.length_drop, List.length_replicate, Int.natCast_add] at *; omega)) rfl) ?_
  refine hcons (kNeI (isX rfl) (isZ (m := 1) rfl) (neF (by omega))) ?_
  refine hcons (kLt (isX rfl) (isZ (m := 8) rfl) (decide_eq_false (by omega))) ?_
  refine hcons (kIdxE (i := 4) (isX rfl) (isZ (m := 4) rfl) (denX rfl) rfl (by first | omega | (simp only [List.length_append, List.length_cons, List.length_nil, List.length_take, List.length_drop, List.length_replicate, Int.natCast_add] at *; omega)) rfl) ?_
  refine hcons (kConvF (isX rfl) tu3 (denX rfl) (fI64 (by omega) (by omega))) ?_
  refine hcons (kShlM 8 256 rfl (isX rfl) (isZ (m := 8) rfl) (denX rfl) rfl (by decide) (by omega) (fI64 (by omega) (by omega))) ?_
  refine hcons (kAdd (isZ (m := 8) rfl) (isX rfl) (denX rfl) (by omega) (fI64 (by omega) (by omega))) ?_
  refine hcons (kIdxE (i := 5) (isX rfl) (isZ (m := 5) rfl) (denX rfl) rfl (by first | omega | (simp only [List.length_append, List.length_cons, List.length_nil, List.length_take, List.length_drop, List.length_replicate, Int.natCast_add] at *; omega)) rfl) ?_
  refine hcons (kConvF (isX rfl) tu3 (denX rfl) (fI64 (by omega) (by omega))) ?_
  refine hcons (kAdd (isX rfl) (isX rfl) (denX rfl) (by omega) (fI64 (by omega) (by omega))) ?_
  refine hcons (kIdxE (i := 6) (isX rfl) (isZ (m := 6) rfl) (denX rfl) rfl (by first | omega | (simp only [List.length_append, List.length_cons, List.length_nil, List.length_take, List.length_drop, List.length_replicate, Int.natCast_add] at *; omega)) rfl) ?_
  refine hcons (kConvF (isX rfl) tu3 (denX rfl) (fI64 (by omega) (by omega))) ?_
  refine hcons (kAdd (isX rfl) (isX rfl) (denX rfl) (by omega) (fI64 (by omega) (by omega))) ?_
  refine hcons (kLt (isX rfl) (isX rfl) (decide_eq_false (by omega))) ?_
  refine hcons (kIdxE (i := 1) (isX rfl) (isZ (m := 1) rfl) (denX rfl) rfl (by first | omega | (simp only [List.length_append, List.length_cons, List.length_nil, List.length_take, List.length_drop, List.length_replicate, Int.natCast_add] at *; omega)) rfl) ?_
  refine hcons (kEqI (isX rfl) (isZ (m := 0) rfl) (decide_eq_false (by omega))) ?_
  refine hcons (kConvF (isX rfl) tu3 (denX rfl) (fI64 (by omega) (by omega))) ?_
  refine hcons (kIdxE (i := 2) (isX rfl) (isZ (m := 2) rfl) (denX rfl) rfl (by first | omega | (simp only [List.length_append, List.length_cons, List.length_nil, List.length_take, List.length_drop, List.length_replicate, Int.natCast_add] at *; omega)) rfl) ?_
  refine hcons (kConvF (isX rfl) tu3 (denX rfl) (fI64 (by omega) (by omega))) ?_
  refine hcons (kShlM 8 256 rfl (isX rfl) (isZ (m := 8) rfl) (denX rfl) rfl (by decide) (by omega) (fI64 (by omega) (by omega))) ?_
  refine hcons (kIdxE (i := 3) (isX rfl) (isZ (m := 3) rfl) (denX rfl) rfl (by first | omega | (simp only [List.length_append, List.length_cons, List.length_nil, List.length_take, List.length_drop, List.length_replicate, Int.natCast_add] at *; omega)) rfl) ?_
  refine hcons (kConvF (isX rfl) tu3 (denX rfl) (fI64 (by omega) (by omega))) ?_
  refine hcons (kOrM 8 256 rfl (isX rfl) (isX rfl) (denX rfl) (by omega) (by omega) (fI64 (by omega) (by omega)) (fI64 (by omega) (by omega)) (by omega) (by omega) (by omega) (fI64 (by omega) (by omega))) ?_
  refine hcons (kSub (isX rfl) (isX rfl) (denX rfl) (by omega) (fI64 (by omega) (by omega))) ?_
  refine hcons (kMid (P := 8) (Q := (bt s 4) * 256 + (bt s 5) + 8) (isX rfl) (.inr ⟨_, _, rfl, (isZ (m := 8) rfl)⟩) (.inr ⟨_, _, rfl, (isX rfl)⟩) (by first | omega | (simp only [List.length_append, List.length_cons, List.length_nil, List.length_take, List.length_drop, List.length_replicate, Int.natCast_add] at *; omega)) (by first | omega | (simp only [List.length_append, List.length_cons, List.length_nil, List.length_take, List.length_drop, List.length_replicate, Int.natCast_add] at *; omega)) (by first | omega | (simp only [List.length_append, List.length_cons, List.length_nil, List.length_take, List.length_drop, List.length_replicate, Int.natCast_add] at *; omega)) (denX rfl)) ?_
  refine hcons (kMid (P := (bt s 4) * 256 + (bt s 5) + (bt s 6) + 8) (Q := (s.length : Int)) (isX rfl) (.inr ⟨_, _, rfl, (isX rfl)⟩) (.inl ⟨rfl, by first | omega | (simp only [List.length_append, List.length_cons, List.length_nil, List.length_take, List.length_drop, List.length_replicate, Int.natCast_add] at *; omega)⟩) (by first | omega | (simp only [List.length_append, List.length_cons, List.length_nil, List.length_take, List.length_drop, List.length_replicate, Int.natCast_add] at *; omega)) (by first | omega | (simp only [List.length_append, List.length_cons, List.length_nil, List.length_take, List.length_drop, List.length_replicate, Int.natCast_add] at *; omega)) (by first | omega | (simp only [List.length_append, List.length_cons, List.length_nil, List.length_take, List.length_drop, List.length_replicate, Int.natCast_add] at *; omega)) (denX rfl)) ?_
  refine hcons (kGt (isX rfl) (isZ (m := 0) rfl) (decide_eq_true (by omega))) ?_
  refine hcons (kMul (isX rfl) (isZ (m := 256) rfl) (denX rfl) (by omega) (fI64 (by omega) (by omega))) ?_
  refine hcons (kAdd (isX rfl) (isX rfl) (denX rfl) (by omega) (fI64 (by omega) (by omega))) ?_
  refine hcons (kAdd (isZ (m := 8) rfl) (isX rfl) (denX rfl) (by omega) (fI64 (by omega) (by omega))) ?_
  refine hcons (kAdd (isX rfl) (isX rfl) (denX rfl) (by omega) (fI64 (by omega) (by omega))) ?_
  refine hcons (kLt (isX rfl) (isX rfl) (decide_eq_false (by omega))) ?_
  refine hcons (kMul (isX rfl) (isZ (m := 256) rfl) (denX rfl) (by omega) (fI64 (by omega) (by omega))) ?_
  refine hcons (kAdd (isX rfl) (isX rfl) (denX rfl) (by omega) (fI64 (by omega) (by omega))) ?_
  refine hcons (kMid (P := 8) (Q := (bt s 4) * 256 + (bt s 5) + 8) (isX rfl) (.inr ⟨_, _, rfl, (isZ (m := 8) rfl)⟩) (.inr ⟨_, _, rfl, (isX rfl)⟩) (by first | omega | (simp only [List.length_append, List.length_cons, List.length_nil, List.length_take, List.length_drop, List.length_replicate, Int.natCast_add] at *; omega)) (by first | omega | (simp only [List.length_append, List.length_cons, List.length_nil, List.length_take, List.length_drop, List.length_replicate, Int.natCast_add] at *; omega)) (by first | omega | (simp only [List.length_append, List.length_cons, List.length_nil, List.length_take, List.length_drop, List.length_replicate, Int.natCast_add] at *; omega)) (denX rfl)) ?_
  refine hcons (kMid (P := (bt s 4) * 256 + (bt s 5) + (bt s 6) + 8) (Q := (s.length : Int)) (isX rfl) (.inr ⟨_, _, rfl, (isX rfl)⟩) (.inl ⟨rfl, by first | omega | (simp only [List.length_append, List.length_cons, List.length_nil, List.length_take, List.length_drop, List.length_replicate, Int.natCast_add] at *; omega)⟩) (by first | omega | (simp only [List.length_append, List.length_cons, List.length_nil, List.length_take, List.length_drop, List.length_replicate, Int.natCast_add] at *; omega)) (by first | omega | (simp only [List.length_append, List.length_cons, List.length_nil, List.length_take, List.length_drop, List.length_replicate, Int.natCast_add] at *; omega)) (by first | omega | (simp only [List.length_append, List.length_cons, List.length_nil, List.length_take, List.length_drop, List.length_replicate, Int.natCast_add] at *; omega)) (denX rfl)) ?_
  refine hcons (kGe (isX rfl) (isZ (m := 1) rfl) (decide_eq_true (by omega))) ?_
  refine hcons (kLe (isX rfl) (isZ (m := 255) rfl) (decide_eq_true (by omega))) ?_
  refine hcons (kGe (isX rfl) (isZ (m := 0) rfl) (decide_eq_true (by omega))) ?_
  refine hcons (kLe (isX rfl) (isZ (m := 65535) rfl) (decide_eq_false (by omega))) ?_
  refine hcons (kEqT (isX rfl) (isX rfl) tu3 (decide_eq_true (by omega))) ?_
  refine hcons (kEqT (isX rfl) (isX rfl) tu3 (decide_eq_true (by omega))) ?_
  refine hcons (kEqTS (isX rfl) (isX rfl) tu9 (decide_eq_true rfl)) ?_
  refine hcons (kEqT (isX rfl) (isX rfl) tu3 (decide_eq_true (by omega))) ?_
  refine hcons (kEqS (isX rfl) (isX rfl) (decide_eq_true rfl)) ?_
  refine hcons (kMax (isX rfl) (isZ (m := 0) rfl) (denX rfl) rfl) ?_
  refine hcons (kNeg (isX rfl) (denX rfl) (by omega) (fI64 (by omega) (by omega))) ?_
  refine hcons (kAndG 3 8 rfl (by decide) (isX rfl) (isZ (m := 7) rfl) (denX rfl) (fI64 (by omega) (by omega)) rfl rfl (fI64 (by omega) (by omega))) ?_
  refine hcons (kMax (isZ (m := 0) rfl) (isX rfl) (denX rfl) rfl) ?_
  refine hcons (kRem (isX rfl) (isZ (m := 8) rfl) (denX rfl) (by omega) (by omega) rfl) ?_
  refine hcons (kSub (isZ (m := 8) rfl) (isX rfl) (denX rfl) (by omega) (fI64 (by omega) (by omega))) ?_
  refine hcons (kRem (isX rfl) (isZ (m := 8) rfl) (denX rfl) (by omega) (by omega) rfl) ?_
  refine hcons (kEqI (isX rfl) (isX rfl) (decide_eq_true (by omega))) ?_
  exact hnil
theorem path28 (rt : Int) (ri : Int) (c : List UInt8) (rp : Int) (s : List UInt8) (n : Int) (b0 : -9223372036854775808 ≤ rt) (b1 : rt ≤ 9223372036854775807) (b2 : -9223372036854775808 ≤ ri) (b3 : ri ≤ 9223372036854775807) (b4 : c.length ≤ 9223372036854775807) (b5 : -9223372036854775808 ≤ rp) (b6 : rp ≤ 9223372036854775807) (b7 : s.length ≤ 9223372036854775807) (b8 : -9223372036854775808 ≤ n) (b9 : n ≤ 9223372036854775807) (h0 : ¬ (3000 < (s.length : Int))) (h1 : ¬ (70000 < (c.length : Int))) (h2 : ¬ ((s.length : Int) = 0)) (h3 : bt s 0 = 1) (h4 : ¬ ((s.length : Int) < 8)) (h5 : ¬ ((s.length : Int) < (bt s 4) * 256 + (bt s 5) + (bt s 6) + 8)) (h6 : ¬ (bt s 1 = 0)) (h9 : 1 ≤ rt) (h10 : rt ≤ 255) (h11 : 0 ≤ ri) (h12 : ¬ (ri ≤ 65535)) (w : World) (hl : laidE w) : Calls Tryd.prog 5 #[.agg #[.int .i64 rt, .int .i64 ri, St' c, .int .i64 rp], St' s, .int .i64 n] w fun e w' => e = .returned (.bool true) ∧ Go.AX.Below w.heap.size w w' := by
  obtain ⟨fi, hfi, hb⟩ : ∃ fi, tabk.fn.get 5 = some fi ∧ fi.body.isSome = true := ⟨_, rfl, by kernel_rfl⟩
  exact runP (tb := tab28) ((tabkOk (nuL (nu28 rt ri c rp s n)) (one28 rt ri c rp s n)).hyps (hyOk28 rt ri c rp s n b0 b1 b2 b3 b4 b5 b6 b7 b8 b9 h0 h1 h2 h3 h4 h5 h6 h9 h10 h11 h12)) rfl hfi hb (fun e => run28 e ) (args := [.agg #[.int .i64 rt, .int .i64 ri, St' c, .int .i64 rp], St' s, .int .i64 n]) (by simp only [RelL, Rel]; exact ⟨_, _, rfl, ⟨_, rfl, ⟨_, _, rfl, rfl, ⟨_, _, rfl, rfl, ⟨_, _, rfl, rfl, ⟨_, _, rfl, rfl, rfl⟩⟩⟩⟩⟩, ⟨_, _, rfl, rfl, ⟨_, _, rfl, rfl, rfl⟩⟩⟩) w hl
def hy29 : List (HK × AV) := [(.len (.x 4), .x 6),
  (.bin .gtr (.x 6) (.i .i64 (.ofNat 3000)), .b false),
  (.len (.x 2), .x 7),
  (.bin .gtr (.x 7) (.i .i64 (.ofNat 70000)), .b false),
  (.bin .neq (.x 4) (.s 0 0), .b true),
  (.idx (.x 4) (.i .i64 (.ofNat 0)), .x 8),
  (.bin .neq (.x 8) (.i .u8 (.ofNat 1)), .b false),
  (.bin .lss (.x 6) (.i .i64 (.ofNat 8)), .b false),
  (.idx (.x 4) (.i .i64 (.ofNat 4)), .x 9),
  (.conv 3 (.x 9), .x 10),
  (.bin .shl (.x 10) (.i .u64 (.ofNat 8)), .x 11),
  (.bin .add (.i .i64 (.ofNat 8)) (.x 11), .x 12),
  (.idx (.x 4) (.i .i64 (.ofNat 5)), .x 13),
  (.conv 3 (.x 13), .x 14),
  (.bin .add (.x 12) (.x 14), .x 15),
  (.idx (.x 4) (.i .i64 (.ofNat 6)), .x 16),
  (.conv 3 (.x 16), .x 17),
  (.bin .add (.x 15) (.x 17), .x 18),
  (.bin .lss (.x 6) (.x 18), .b false),
  (.idx (.x 4) (.i .i64 (.ofNat 1)), .x 19),
  (.bin .eql (.x 19) (.i .u8 (.ofNat 0)), .b true),
  (.bin .gtr (.x 6) (.i .i64 (.ofNat 0)), .b true),
  (.bin .mul (.x 10) (.i .i64 (.ofNat 256)), .x 20),
  (.bin .add (.x 20) (.x 14), .x 21),
  (.bin .add (.i .i64 (.ofNat 8)) (.x 21), .x 22),
  (.bin .add (.x 22) (.x 17), .x 23),
  (.bin .lss (.x 6) (.x 23), .b false),
  (.bin .geq (.x 0) (.i .i64 (.ofNat 1)), .b true),
  (.bin .leq (.x 0) (.i .i64 (.ofNat 255)), .b true),
  (.bin .geq (.x 1) (.i .i64 (.ofNat 0)), .b true),
  (.bin .leq (.x 1) (.i .i64 (.ofNat 65535)), .b false),
  (.bin .eql (.x 4) (.x 4), .b true),
  (.mm true (.x 5) (.i .i64 (.ofNat 0)), .x 24),
  (.un .neg (.x 24), .x 25),
  (.bin .and (.x 25) (.i .i64 (.ofNat 7)), .x 26),
  (.mm true (.i .i64 (.ofNat 0)) (.x 5), .x 27),
  (.bin .rem (.x 27) (.i .i64 (.ofNat 8)), .x 28),
  (.bin .sub (.i .i64 (.ofNat 8)) (.x 28), .x 29),
  (.bin .rem (.x 29) (.i .i64 (.ofNat 8)), .x 30),
  (.bin .eql (.x 26) (.x 30), .b true)]
noncomputable def tab29 : Tab := { tabk with hyp := hy29 }
theorem run29 (e : Nat) : okB (call tab29 9000 5 [.ag [.x 0, .x 1, .x 2, .x 3], .x 4, .x 5] ⟨H0 e , 7, 0, 0⟩) = true := by kernel_rfl
def nu29 (rt : Int) (ri : Int) (c : List UInt8) (rp : Int) (s : List UInt8) (n : Int) : List Value := [.int .i64 (rt),
  .int .i64 (ri),
  St' c,
  .int .i64 (rp),
  St' s,
  .int .i64 (n),
  .int .i64 ((s.length : Int)),
  .int .i64 ((c.length : Int)),
  .int .u8 (bt s 0),
  .int .u8 (bt s 4),
  .int .i64 ((bt s 4)),
  .int .i64 ((bt s 4) * 256),
  .int .i64 ((bt s 4) * 256 + 8),
  .int .u8 (bt s 5),
  .int .i64 ((bt s 5)),
  .int .i64 ((bt s 4) * 256 + (bt s 5) + 8),
  .int .u8 (bt s 6),
  .int .i64 ((bt s 6)),
  .int .i64 ((bt s 4) * 256 + (bt s 5) + (bt s 6) + 8),
  .int .u8 (bt s 1),
  .int .i64 ((bt s 4) * 256),
  .int .i64 ((bt s 4) * 256 + (bt s 5)),
  .int .i64 ((bt s 4) * 256 + (bt s 5) + 8),
  .int .i64 ((bt s 4) * 256 + (bt s 5) + (bt s 6) + 8),
  .int .i64 (max n 0),
  .int .i64 (-((max n 0))),
  .int .i64 ((-((max n 0))) % 8),
  .int .i64 (max 0 n),
  .int .i64 ((max 0 n) % 8),
  .int .i64 (8 - ((max 0 n) % 8)),
  .int .i64 ((8 - ((max 0 n) % 8)) % 8)]
theorem one29 (rt : Int) (ri : Int) (c : List UInt8) (rp : Int) (s : List UInt8) (n : Int) : ∀ j, (nuL (nu29 rt ri c rp s n) j).oneCell' = true := nuL_one (l := nu29 rt ri c rp s n) rfl
set_option maxHeartbeats 2000000 in
theorem hyOk29 (rt : Int) (ri : Int) (c : List UInt8) (rp : Int) (s : List UInt8) (n : Int) (b0 : -9223372036854775808 ≤ rt) (b1 : rt ≤ 9223372036854775807) (b2 : -9223372036854775808 ≤ ri) (b3 : ri ≤ 9223372036854775807) (b4 : c.length ≤ 9223372036854775807) (b5 : -9223372036854775808 ≤ rp) (b6 : rp ≤ 9223372036854775807) (b7 : s.length ≤ 9223372036854775807) (b8 : -9223372036854775808 ≤ n) (b9 : n ≤ 9223372036854775807) (h0 : ¬ (3000 < (s.length : Int))) (h1 : ¬ (70000 < (c.length : Int))) (h2 : ¬ ((s.length : Int) = 0)) (h3 : bt s 0 = 1) (h4 : ¬ ((s.length : Int) < 8)) (h5 : ¬ ((s.length : Int) < (bt s 4) * 256 + (bt s 5) + (bt s 6) + 8)) (h6 : bt s 1 = 0) (h9 : 1 ≤ rt) (h10 : rt ≤ 255) (h11 : 0 ≤ ri) (h12 : ¬ (ri ≤ 65535)) : ∀ k r, (k, r) ∈ hy29 → HOk (cx (nuL (nu29 rt ri c rp s n)) (one29 rt ri c rp s n) 1 laidE laidE_stab) k r := by
  have := bt_lo s 0; have := bt_hi s 0
  have := bt_lo s 4; have := bt_hi s 4
  have := bt_lo s 5; have := bt_hi s 5
  have := bt_lo s 6; have := bt_hi s 6
  have := bt_lo s 1; have := bt_hi s 1
  unfold hy29
  refine hcons (kLenE (isX rfl) (denX rfl) (by first | omega | (simp only [List.length_append, List.length_cons, List.length_nil, List.length_take, List.length_drop, List.length_replicate, Int.natCast_add] at *; omega))) ?_
  refine hcons (kGt (isX rfl) (isZ (m := 3000) rfl) (decide_eq_false (by omega))) ?_
  refine hcons (kLenE (isX rfl) (denX rfl) (by first | omega | (simp only [List.length_append, List.length_cons, List.length_nil, List.length_take, List.length_drop, List.length_replicate, Int.natCast_add] at *; omega))) ?_
  refine hcons (kGt (isX rfl) (isZ (m := 70000) rfl) (decide_eq_false (by omega))) ?_
  refine hcons (kNeS (isX rfl) (isSx (l := ([] : List UInt8)) 0 0 rfl) (bnT (by first | exact nilT (by first | omega | (simp only [List.length_append, List.length_cons, List.length_nil, List.length_take, List.length_drop, List.length_replicate, Int.natCast_add] at *; omega)) | exact nilF (by first | omega | (simp only [List.length_append, List.length_cons, List.length_nil, List.length_take, List.length_drop, List.length_replicate, Int.natCast_add] at *; omega)) | exact nilT' (by first | omega | (simp only [List.length_append, List.length_cons, List.length_nil, List.length_take, List.length_drop, List.length_replicate, Int.natCast_add] at *; omega)) | exact nilF' (by first | omega | (simp only [List.length_append, List.length_cons, List.length_nil, List.length_take, List.length_drop, List.length_replicate, Int.natCast_add] at *; omega))))) ?_
  refine hcons (kIdxE (i := 0) (isX rfl) (isZ (m := 0) rfl) (denX rfl) rfl (by first | omega | (simp only [List.length_append, List.length_cons, List.length_nil, List.length_take, List.length_drop, List.length_replicate, Int.natCast_add] at *; omega)) rfl) ?_
  refine hcons (kNeI (isX rfl) (isZ (m := 1) rfl) (neF (by omega))) ?_
  refine hcons (kLt (isX rfl) (isZ (m := 8) rfl) (decide_eq_false (by omega))) ?_
  refine hcons (kIdxE (i := 4) (isX rfl) (isZ (m := 4) rfl) (denX rfl) rfl (by first | omega | (simp only [List.length_append, List.length_cons, List.length_nil, List.length_take, List.length_drop, List.length_replicate, Int.natCast_add] at *; omega)) rfl) ?_
  refine hcons (kConvF (isX rfl) tu3 (denX rfl) (fI64 (by omega) (by omega))) ?_
  refine hcons (kShlM 8 256 rfl (isX rfl) (isZ (m := 8) rfl) (denX rfl) rfl (by decide) (by omega) (fI64 (by omega) (by omega))) ?_
  refine hcons (kAdd (isZ (m := 8) rfl) (isX rfl) (denX rfl) (by omega) (fI64 (by omega) (by omega))) ?_
  refine hcons (kIdxE (i := 5) (isX rfl) (isZ (m := 5) rfl) (denX rfl) rfl (by first | omega | (simp only [List.length_append, List.length_cons, List.length_nil, List.length_take, List.length_drop, List.length_replicate, Int.natCast_add] at *; omega)) rfl) ?_
  refine hcons (kConvF (isX rfl) tu3 (denX rfl) (fI64 (by omega) (by omega))) ?_
  refine hcons (kAdd (isX rfl) (isX rfl) (denX rfl) (by omega) (fI64 (by omega) (by omega))) ?_
  refine hcons (kIdxE (i := 6) (isX rfl) (isZ (m := 6) rfl) (denX rfl) rfl (by first | omega | (simp only [List.length_append, List.length_cons, List.length_nil, List.length_take, List.length_drop, List.length_replicate, Int.natCast_add] at *; omega)) rfl) ?_
  refine hcons (kConvF (isX rfl) tu3 (denX rfl) (fI64 (by omega) (by omega))) ?_
  refine hcons (kAdd (isX rfl) (isX rfl) (denX rfl) (by omega) (fI64 (by omega) (by omega))) ?_
  refine hcons (kLt (isX rfl) (isX rfl) (decide_eq_false (by omega))) ?_
  refine hcons (kIdxE (i := 1) (isX rfl) (isZ (m := 1) rfl) (denX rfl) rfl (by first | omega | (simp only [List.length_append, List.length_cons, List.length_nil, List.length_take, List.length_drop, List.length_replicate, Int.natCast_add] at *; omega)) rfl) ?_
  refine hcons (kEqI (isX rfl) (isZ (m := 0) rfl) (decide_eq_true (by omega))) ?_
  refine hcons (kGt (isX rfl) (isZ (m := 0) rfl) (decide_eq_true (by omega))) ?_
  refine hcons (kMul (isX rfl) (isZ (m := 256) rfl) (denX rfl) (by omega) (fI64 (by omega) (by omega))) ?_
  refine hcons (kAdd (isX rfl) (isX rfl) (denX rfl) (by omega) (fI64 (by omega) (by omega))) ?_
  refine hcons (kAdd (isZ (m := 8) rfl) (isX rfl) (denX rfl) (by omega) (fI64 (by omega) (by omega))) ?_
  refine hcons (kAdd (isX rfl) (isX rfl) (denX rfl) (by omega) (fI64 (by omega) (by omega))) ?_
  refine hcons (kLt (isX rfl) (isX rfl) (decide_eq_false (by omega))) ?_
  refine hcons (kGe (isX rfl) (isZ (m := 1) rfl) (decide_eq_true (by omega))) ?_
  refine hcons (kLe (isX rfl) (isZ (m := 255) rfl) (decide_eq_true (by omega))) ?_
  refine hcons (kGe (isX rfl) (isZ (m := 0) rfl) (decide_eq_true (by omega))) ?_
  refine hcons (kLe (isX rfl) (isZ (m := 65535) rfl) (decide_eq_false (by omega))) ?_
  refine hcons (kEqS (isX rfl) (isX rfl) (decide_eq_true rfl)) ?_
  refine hcons (kMax (isX rfl) (isZ (m := 0) rfl) (denX rfl) rfl) ?_
  refine hcons (kNeg (isX rfl) (denX rfl) (by omega) (fI64 (by omega) (by omega))) ?_
  refine hcons (kAndG 3 8 rfl (by decide) (isX rfl) (isZ (m := 7) rfl) (denX rfl) (fI64 (by omega) (by omega)) rfl rfl (fI64 (by omega) (by omega))) ?_
  refine hcons (kMax (isZ (m := 0) rfl) (isX rfl) (denX rfl) rfl) ?_
  refine hcons (kRem (isX rfl) (isZ (m := 8) rfl) (denX rfl) (by omega) (by omega) rfl) ?_
  refine hcons (kSub (isZ (m := 8) rfl) (isX rfl) (denX rfl) (by omega) (fI64 (by omega) (by omega))) ?_
  refine hcons (kRem (isX rfl) (isZ (m := 8) rfl) (denX rfl) (by omega) (by omega) rfl) ?_
  refine hcons (kEqI (isX rfl) (isX rfl) (decide_eq_true (by omega))) ?_
  exact hnil
theorem path29 (rt : Int) (ri : Int) (c : List UInt8) (rp : Int) (s : List UInt8) (n : Int) (b0 : -9223372036854775808 ≤ rt) (b1 : rt ≤ 9223372036854775807) (b2 : -9223372036854775808 ≤ ri) (b3 : ri ≤ 9223372036854775807) (b4 : c.length ≤ 9223372036854775807) (b5 : -9223372036854775808 ≤ rp) (b6 : rp ≤ 9223372036854775807) (b7 : s.length ≤ 9223372036854775807) (b8 : -9223372036854775808 ≤ n) (b9 : n ≤ 9223372036854775807) (h0 : ¬ (3000 < (s.length : Int))) (h1 : ¬ (70000 < (c.length : Int))) (h2 : ¬ ((s.length : Int) = 0)) (h3 : bt s 0 = 1) (h4 : ¬ ((s.length : Int) < 8)) (h5 : ¬ ((s.length : Int) < (bt s 4) * 256 + (bt s 5) + (bt s 6) + 8)) (h6 : bt s 1 = 0) (h9 : 1 ≤ rt) (h10 : rt ≤ 255) (h11 : 0 ≤ ri) (h12 : ¬ (ri ≤ 65535)) (w : World) (hl : laidE w) : Calls Tryd.prog 5 #[.agg #[.int .i64 rt, .int .i64 ri, St' c, .int .i64 rp], St' s, .int .i64 n] w fun e w' => e = .returned (.bool true) ∧ Go.AX.Below w.heap.size w w' := by
  obtain ⟨fi, hfi, hb⟩ : ∃ fi, tabk.fn.get 5 = some fi ∧ fi.body.isSome = true := ⟨_, rfl, by kernel_rfl⟩
  exact runP (tb := tab29) ((tabkOk (nuL (nu29 rt ri c rp s n)) (one29 rt ri c rp s n)).hyps (hyOk29 rt ri c rp s n b0 b1 b2 b3 b4 b5 b6 b7 b8 b9 h0 h1 h2 h3 h4 h5 h6 h9 h10 h11 h12)) rfl hfi hb (fun e => run29 e ) (args := [.agg #[.int .i64 rt, .int .i64 ri, St' c, .int .i64 rp], St' s, .int .i64 n]) (by simp only [RelL, Rel]; exact ⟨_, _, rfl, ⟨_, rfl, ⟨_, _, rfl, rfl, ⟨_, _, rfl, rfl, ⟨_, _, rfl, rfl, ⟨_, _, rfl, rfl, rfl⟩⟩⟩⟩⟩, ⟨_, _, rfl, rfl, ⟨_, _, rfl, rfl, rfl⟩⟩⟩) w hl
def hy30 : List (HK × AV) := [(.len (.x 4), .x 6),
  (.bin .gtr (.x 6) (.i .i64 (.ofNat 3000)), .b false),
  (.len (.x 2), .x 7),
  (.bin .gtr (.x 7) (.i .i64 (.ofNat 70000)), .b false),
  (.bin .neq (.x 4) (.s 0 0), .b true),
  (.idx (.x 4) (.i .i64 (.ofNat 0)), .x 8),
  (.bin .neq (.x 8) (.i .u8 (.ofNat 1)), .b false),
  (.bin .lss (.x 6) (.i .i64 (.ofNat 8)), .b false),
  (.idx (.x 4) (.i .i64 (.ofNat 4)), .x 9),
  (.conv 3 (.x 9), .x 10),
  (.bin .shl (.x 10) (.i .u64 (.ofNat 8)), .x 11),
  (.bin .add (.i .i64 (.ofNat 8)) (.x 11), .x 12),
  (.idx (.x 4) (.i .i64 (.ofNat 5)), .x 13),
  (.conv 3 (.x 13), .x 14),
  (.bin .add (.x 12) (.x 14), .x 15),
  (.idx (.x 4) (.i .i64 (.ofNat 6)), .x 16),
  (.conv 3 (.x 16), .x 17),
  (.bin .add (.x 15) (.x 17), .x 18),
  (.bin .lss (.x 6) (.x 18), .b true),
  (.bin .gtr (.x 6) (.i .i64 (.ofNat 0)), .b true),
  (.bin .mul (.x 10) (.i .i64 (.ofNat 256)), .x 19),
  (.bin .add (.x 19) (.x 14), .x 20),
  (.bin .add (.i .i64 (.ofNat 8)) (.x 20), .x 21),
  (.bin .add (.x 21) (.x 17), .x 22),
  (.bin .lss (.x 6) (.x 22), .b true),
  (.bin .geq (.x 0) (.i .i64 (.ofNat 1)), .b true),
  (.bin .leq (.x 0) (.i .i64 (.ofNat 255)), .b true),
  (.bin .geq (.x 1) (.i .i64 (.ofNat 0)), .b true),
  (.bin .leq (.x 1) (.i .i64 (.ofNat 65535)), .b false),
  (.bin .eql (.x 4) (.x 4), .b true),
  (.mm true (.x 5) (.i .i64 (.ofNat 0)), .x 23),
  (.un .neg (.x 23), .x 24),
  (.bin .and (.x 24) (.i .i64 (.ofNat 7)), .x 25),
  (.mm true (.i .i64 (.ofNat 0)) (.x 5), .x 26),
  (.bin .rem (.x 26) (.i .i64 (.ofNat 8)), .x 27),
  (.bin .sub (.i .i64 (.ofNat 8)) (.x 27), .x 28),
  (.bin .rem (.x 28) (.i .i64 (.ofNat 8)), .x 29),
  (.bin .eql (.x 25) (.x 29), .b true)]
noncomputable def tab30 : Tab := { tabk with hyp := hy30 }
theorem run30 (e : Nat) : okB (call tab30 9000 5 [.ag [.x 0, .x 1, .x 2, .x 3], .x 4, .x 5] ⟨H0 e , 7, 0, 0⟩) = true := by kernel_rfl
def nu30 (rt : Int) (ri : Int) (c : List UInt8) (rp : Int) (s : List UInt8) (n : Int) : List Value := [.int .i64 (rt),
  .int .i64 (ri),
  St' c,
  .int .i64 (rp),
  St' s,
  .int .i64 (n),
  .int .i64 ((s.length : Int)),
  .int .i64 ((c.length : Int)),
  .int .u8 (bt s 0),
  .int .u8 (bt s 4),
  .int .i64 ((bt s 4)),
  .int .i64 ((bt s 4) * 256),
  .int .i64 ((bt s 4) * 256 + 8),
  .int .u8 (bt s 5),
  .int .i64 ((bt s 5)),
  .int .i64 ((bt s 4) * 256 + (bt s 5) + 8),
  .int .u8 (bt s 6),
  .int .i64 ((bt s 6)),
  .int .i64 ((bt s 4) * 256 + (bt s 5) + (bt s 6) + 8),
  .int .i64 ((bt s 4) * 256),
  .int .i64 ((bt s 4) * 256 + (bt s 5)),
  .int .i64 ((bt s 4) * 256 + (bt s 5) + 8),
  .int .i64 ((bt s 4) * 256 + (bt s 5) + (bt s 6) + 8),
  .int .i64 (max n 0),
  .int .i64 (-((max n 0))),
  .int .i64 ((-((max n 0))) % 8),
  .int .i64 (max 0 n),
  .int .i64 ((max 0 n) % 8),
  .int .i64 (8 - ((max 0 n) % 8)),
  .int .i64 ((8 - ((max 0 n) % 8)) % 8)]
theorem one30 (rt : Int) (ri : Int) (c : List UInt8) (rp : Int) (s : List UInt8) (n : Int) : ∀ j, (nuL (nu30 rt ri c rp s n) j).oneCell' = true := nuL_one (l := nu30 rt ri c rp s n) rfl
set_option maxHeartbeats 2000000 in
theorem hyOk30 (rt : Int) (ri : Int) (c : List UInt8) (rp : Int) (s : List UInt8) (n : Int) (b0 : -9223372036854775808 ≤ rt) (b1 : rt ≤ 9223372036854775807) (b2 : -9223372036854775808 ≤ ri) (b3 : ri ≤ 9223372036854775807) (b4 : c.length ≤ 9223372036854775807) (b5 : -9223372036854775808 ≤ rp) (b6 : rp ≤ 9223372036854775807) (b7 : s.length ≤ 9223372036854775807) (b8 : -9223372036854775808 ≤ n) (b9 : n ≤ 9223372036854775807) (h0 : ¬ (3000 < (s.length : Int))) (h1 : ¬ (70000 < (c.length : Int))) (h2 : ¬ ((s.length : Int) = 0)) (h3 : bt s 0 = 1) (h4 : ¬ ((s.length : Int) < 8)) (h5 : (s.length : Int) < (bt s 4) * 256 + (bt s 5) + (bt s 6) + 8) (h8 : 1 ≤ rt) (h9 : rt ≤ 255) (h10 : 0 ≤ ri) (h11 : ¬ (ri ≤ 65535)) : ∀ k r, (k, r) ∈ hy30 → HOk (cx (nuL (nu30 rt ri c rp s n)) (one30 rt ri c rp s n) 1 laidE laidE_stab) k r := by
  have := bt_lo s 0; have := bt_hi s 0
  have := bt_lo s 4; have := bt_hi s 4
  have := bt_lo s 5; have := bt_hi s 5
  have := bt_lo s 6; have := bt_hi s 6
  unfold hy30
  refine hcons (kLenE (isX rfl) (denX rfl) (by first | omega | (simp only [List.length_append, List.length_cons, List.length_nil, List.length_take, List.length_drop, List.length_replicate, Int.natCast_add] at *; omega))) ?_
  refine hcons (kGt (isX rfl) (isZ (m := 3000) rfl) (decide_eq_false (by omega))) ?_
  refine hcons (kLenE (isX rfl) (denX rfl) (by first | omega | (simp only [List.length_append, List.length_cons, List.length_nil, List.length_take, List.length_drop, List.length_replicate, Int.natCast_add] at *; omega))) ?_
  refine hcons (kGt (isX rfl) (isZ (m := 70000) rfl) (decide_eq_false (by omega))) ?_
  refine hcons (kNeS (isX rfl) (isSx (l := ([] : List UInt8)) 0 0 rfl) (bnT (by first | exact nilT (by first | omega | (simp only [List.length_append, List.length_cons, List.length_nil, List.length_take, List.length_drop, List.length_replicate, Int.natCast_add] at *; omega)) | exact nilF (by first | omega | (simp only [List.length_append, List.length_cons, List.length_nil, List.length_take, List.length_drop, List.length_replicate, Int.natCast_add] at *; omega)) | exact nilT' (by first | omega | (simp only [List.length_append, List.length_cons, List.length_nil, List.length_take, List.length_drop, List.length_replicate, Int.natCast_add] at *; omega)) | exact nilF' (by first | omega | (simp only [List.length_append, List.length_cons, List.length_nil, List.length_take, List.length_drop, List.length_replicate, Int.natCast_add] at *; omega))))) ?_
  refine hcons (kIdxE (i := 0) (isX rfl) (isZ (m := 0) rfl) (denX rfl) rfl (by first | omega | (simp only [List.length_append, List.length_cons, List.length_nil, List.length_take, List.length_drop, List.length_replicate, Int.natCast_add] at *; omega)) rfl) ?_
  refine hcons (kNeI (isX rfl) (isZ (m := 1) rfl) (neF (by omega))) ?_
  refine hcons (kLt (isX rfl) (isZ (m := 8) rfl) (decide_eq_false (by omega))) ?_
  refine hcons (kIdxE (i := 4) (isX rfl) (isZ (m := 4) rfl) (denX rfl) rfl (by first | omega | (simp only [List.length_append, List.length_cons, List.length_nil, List.length_take, List.length_drop, List.length_replicate, Int.natCast_add] at *; omega)) rfl) ?_
  refine hcons (kConvF (isX rfl) tu3 (denX rfl) (fI64 (by omega) (by omega))) ?_
  refine hcons (kShlM 8 256 rfl (isX rfl) (isZ (m := 8) rfl) (denX rfl) rfl (by decide) (by omega) (fI64 (by omega) (by omega))) ?_
  refine hcons (kAdd (isZ (m := 8) rfl) (isX rfl) (denX rfl) (by omega) (fI64 (by omega) (by omega))) ?_
  refine hcons (kIdxE (i := 5) (isX rfl) (isZ (m := 5) rfl) (denX rfl) rfl (by first | omega | (simp only [List.length_append, List.length_cons, List.length_nil, List.length_take, List.length_drop, List.length_replicate, Int.natCast_add] at *; omega)) rfl) ?_
  refine hcons (kConvF (isX rfl) tu3 (denX rfl) (fI64 (by omega) (by omega))) ?_
  refine hcons (kAdd (isX rfl) (isX rfl) (denX rfl) (by omega) (fI64 (by omega) (by omega))) ?_
  refine hcons (kIdxE (i := 6) (isX rfl) (isZ (m := 6) rfl) (denX rfl) rfl (by first | omega | (simp only [List.length_append, List.length_cons, List.length_nil, List.length_take, List.length_drop, List.length_replicate, Int.natCast_add] at *; omega)) rfl) ?_
  refine hcons (kConvF (isX rfl) tu3 (denX rfl) (fI64 (by omega) (by omega))) ?_
  refine hcons (kAdd (isX rfl) (isX rfl) (denX rfl) (by omega) (fI64 (by omega) (by omega))) ?_
  refine hcons (kLt (isX rfl) (isX rfl) (decide_eq_true (by omega))) ?_
  refine hcons (kGt (isX rfl) (isZ (m := 0) rfl) (decide_eq_true (by omega))) ?_
  refine hcons (kMul (isX rfl) (isZ (m := 256) rfl) (denX rfl) (by omega) (fI64 (by omega) (by omega))) ?_
  refine hcons (kAdd (isX rfl) (isX rfl) (denX rfl) (by omega) (fI64 (by omega) (by omega))) ?_
  refine hcons (kAdd (isZ (m := 8) rfl) (isX rfl) (denX rfl) (by omega) (fI64 (by omega) (by omega))) ?_
  refine hcons (kAdd (isX rfl) (isX rfl) (denX rfl) (by omega) (fI64 (by omega) (by omega))) ?_
  refine hcons (kLt (isX rfl) (isX rfl) (decide_eq_true (by omega))) ?_
  refine hcons (kGe (isX rfl) (isZ (m := 1) rfl) (decide_eq_true (by omega))) ?_
  refine hcons (kLe (isX rfl) (isZ (m := 255) rfl) (decide_eq_true (by omega))) ?_
  refine hcons (kGe (isX rfl) (isZ (m := 0) rfl) (decide_eq_true (by omega))) ?_
  refine hcons (kLe (isX rfl) (isZ (m := 65535) rfl) (decide_eq_false (by omega))) ?_
  refine hcons (kEqS (isX rfl) (isX rfl) (decide_eq_true rfl)) ?_
  refine hcons (kMax (isX rfl) (isZ (m := 0) rfl) (denX rfl) rfl) ?_
  refine hcons (kNeg (isX rfl) (denX rfl) (by omega) (fI64 (by omega) (by omega))) ?_
  refine hcons (kAndG 3 8 rfl (by decide) (isX rfl) (isZ (m := 7) rfl) (denX rfl) (fI64 (by omega) (by omega)) rfl rfl (fI64 (by omega) (by omega))) ?_
  refine hcons (kMax (isZ (m := 0) rfl) (isX rfl) (denX rfl) rfl) ?_
  refine hcons (kRem (isX rfl) (isZ (m := 8) rfl) (denX rfl) (by omega) (by omega) rfl) ?_
  refine hcons (kSub (isZ (m := 8) rfl) (isX rfl) (denX rfl) (by omega) (fI64 (by omega) (by omega))) ?_
  refine hcons (kRem (isX rfl) (isZ (m := 8) rfl) (denX rfl) (by omega) (by omega) rfl) ?_
  refine hcons (kEqI (isX rfl) (isX rfl) (decide_eq_true (by omega))) ?_
  exact hnil
theorem path30 (rt : Int) (ri : Int) (c : List UInt8) (rp : Int) (s : List UInt8) (n : Int) (b0 : -9223372036854775808 ≤ rt) (b1 : rt ≤ 9223372036854775807) (b2 : -9223372036854775808 ≤ ri) (b3 : ri ≤ 9223372036854775807) (b4 : c.length ≤ 9223372036854775807) (b5 : -9223372036854775808 ≤ rp) (b6 : rp ≤ 9223372036854775807) (b7 : s.length ≤ 9223372036854775807) (b8 : -9223372036854775808 ≤ n) (b9 : n ≤ 9223372036854775807) (h0 : ¬ (3000 < (s.length : Int))) (h1 : ¬ (70000 < (c.length : Int))) (h2 : ¬ ((s.length : Int) = 0)) (h3 : bt s 0 = 1) (h4 : ¬ ((s.length : Int) < 8)) (h5 : (s.length : Int) < (bt s 4) * 256 + (bt s 5) + (bt s 6) + 8) (h8 : 1 ≤ rt) (h9 : rt ≤ 255) (h10 : 0 ≤ ri) (h11 : ¬ (ri ≤ 65535)) (w : World) (hl : laidE w) : Calls Tryd.prog 5 #[.agg #[.int .i64 rt, .int .i64 ri, St' c, .int .i64 rp], St' s, .int .i64 n] w fun e w' => e = .returned (.bool true) ∧ Go.AX.Below w.heap.size w w' := by
  obtain ⟨fi, hfi, hb⟩ : ∃ fi, tabk.fn.get 5 = some fi ∧ fi.body.isSome = true := ⟨_, rfl, by kernel_rfl⟩
  exact runP (tb := tab30) ((tabkOk (nuL (nu30 rt ri c rp s n)) (one30 rt ri c rp s n)).hyps (hyOk30 rt ri c rp s n b0 b1 b2 b3 b4 b5 b6 b7 b8 b9 h0 h1 h2 h3 h4 h5 h8 h9 h10 h11)) rfl hfi hb (fun e => run30 e ) (args := [.agg #[.int .i64 rt, .int .i64 ri, St' c, .int .i64 rp], St' s, .int .i64 n]) (by simp only [RelL, Rel]; exact ⟨_, _, rfl, ⟨_, rfl, ⟨_, _, rfl, rfl, ⟨_, _, rfl, rfl, ⟨_, _, rfl, rfl, ⟨_, _, rfl, rfl, rfl⟩⟩⟩⟩⟩, ⟨_, _, rfl, rfl, ⟨_, _, rfl, rfl, rfl⟩⟩⟩) w hl
def hy31 : List (HK × AV) := [(.len (.x 4), .x 6),
  (.bin .gtr (.x 6) (.i .i64 (.ofNat 3000)), .b false),
  (.len (.x 2), .x 7),
  (.bin .gtr (.x 7) (.i .i64 (.ofNat 70000)), .b false),
  (.bin .neq (.x 4) (.s 0 0), .b false),
  (.bin .lss (.x 6) (.i .i64 (.ofNat 8)), .b true),
  (.bin .gtr (.x 6) (.i .i64 (.ofNat 0)), .b false),
  (.bin .geq (.x 0) (.i .i64 (.ofNat 1)), .b true),
  (.bin .leq (.x 0) (.i .i64 (.ofNat 255)), .b true),
  (.bin .geq (.x 1) (.i .i64 (.ofNat 0)), .b true),
  (.bin .leq (.x 1) (.i .i64 (.ofNat 65535)), .b true),
  (.bin .leq (.x 7) (.i .i64 (.ofNat 65535)), .b false),
  (.bin .eql (.x 4) (.x 4), .b true),
  (.mm true (.x 5) (.i .i64 (.ofNat 0)), .x 8),
  (.un .neg (.x 8), .x 9),
  (.bin .and (.x 9) (.i .i64 (.ofNat 7)), .x 10),
  (.mm true (.i .i64 (.ofNat 0)) (.x 5), .x 11),
  (.bin .rem (.x 11) (.i .i64 (.ofNat 8)), .x 12),
  (.bin .sub (.i .i64 (.ofNat 8)) (.x 12), .x 13),
  (.bin .rem (.x 13) (.i .i64 (.ofNat 8)), .x 14),
  (.bin .eql (.x 10) (.x 14), .b true)]
noncomputable def tab31 : Tab := { tabk with hyp := hy31 }
theorem run31 (e : Nat) : okB (call tab31 9000 5 [.ag [.x 0, .x 1, .x 2, .x 3], .x 4, .x 5] ⟨H0 e , 7, 0, 0⟩) = true := by kernel_rfl
def nu31 (rt : Int) (ri : Int) (c : List UInt8) (rp : Int) (s : List UInt8) (n : Int) : List Value := [.int .i64 (rt),
  .int .i64 (ri),
  St' c,
  .int .i64 (rp),
  St' s,
  .int .i64 (n),
  .int .i64 ((s.length : Int)),
  .int .i64 ((c.length : Int)),
  .int .i64 (max n 0),
  .int .i64 (-((max n 0))),
  .int .i64 ((-((max n 0))) % 8),
  .int .i64 (max 0 n),
  .int .i64 ((max 0 n) % 8),
  .int .i64 (8 - ((max 0 n) % 8)),
  .int .i64 ((8 - ((max 0 n) % 8)) % 8)]
theorem one31 (rt : Int) (ri : Int) (c : List UInt8) (rp : Int) (s : List UInt8) (n : Int) : ∀ j, (nuL (nu31 rt ri c rp s n) j).oneCell' = true := nuL_one (l := nu31 rt ri c rp s n) rfl
set_option maxHeartbeats 2000000 in
theorem hyOk31 (rt : Int) (ri : Int) (c : List UInt8) (rp : Int) (s : List UInt8) (n : Int) (b0 : -9223372036854775808 ≤ rt) (b1 : rt ≤ 9223372036854775807) (b2 : -9223372036854775808 ≤ ri) (b3 : ri ≤ 9223372036854775807) (b4 : c.length ≤ 9223372036854775807) (b5 : -9223372036854775808 ≤ rp) (b6 : rp ≤ 9223372036854775807) (b7 : s.length ≤ 9223372036854775807) (b8 : -9223372036854775808 ≤ n) (b9 : n ≤ 9223372036854775807) (h0 : ¬ (3000 < (s.length : Int))) (h1 : ¬ (70000 < (c.length : Int))) (h2 : (s.length : Int) = 0) (h5 : 1 ≤ rt) (h6 : rt ≤ 255) (h7 : 0 ≤ ri) (h8 : ri ≤ 65535) (h9 : ¬ ((c.length : Int) ≤ 65535)) : ∀ k r, (k, r) ∈ hy31 → HOk (cx (nuL (nu31 rt ri c rp s n)) (one31 rt ri c rp s n) 1 laidE laidE_stab) k r := by
  unfold hy31
  refine hcons (kLenE (isX rfl) (denX rfl) (by first | omega | (simp only [List.length_append, List.length_cons, List.length_nil, List.length_take, List.length_drop, List.length_replicate, Int.natCast_add] at *; omega))) ?_
  refine hcons (kGt (isX rfl) (isZ (m := 3000) rfl) (decide_eq_false (by omega))) ?_
  refine hcons (kLenE (isX rfl) (denX rfl) (by first | omega | (simp only [List.length_append, List.length_cons, List.length_nil, List.length_take, List.length_drop, List.length_replicate, Int.natCast_add] at *; omega))) ?_
  refine hcons (kGt (isX rfl) (isZ (m := 70000) rfl) (decide_eq_false (by omega))) ?_
  refine hcons (kNeS (isX rfl) (isSx (l := ([] : List UInt8)) 0 0 rfl) (bnF (by first | exact nilT (by first | omega | (simp only [List.length_append, List.length_cons, List.length_nil, List.length_take, List.length_drop, List.length_replicate, Int.natCast_add] at *; omega)) | exact nilF (by first | omega | (simp only [List.length_append, List.length_cons, List.length_nil, List.length_take, List.length_drop, List.length_replicate, Int.natCast_add] at *; omega)) | exact nilT' (by first | omega | (simp only [List.length_append, List.length_cons, List.length_nil, List.length_take, List.length_drop, List.length_replicate, Int.natCast_add] at *; omega)) | exact nilF' (by first | omega | (simp only [List.length_append, List.length_cons, List.length_nil, List.length_take, List.length_drop, List.length_replicate, Int.natCast_add] at *; omega))))) ?_
  refine hcons (kLt (isX rfl) (isZ (m := 8) rfl) (decide_eq_true (by omega))) ?_
  refine hcons (kGt (isX rfl) (isZ (m := 0) rfl) (decide_eq_false (by omega))) ?_
  refine hcons (kGe (isX rfl) (isZ (m := 1) rfl) (decide_eq_true (by omega))) ?_
  refine hcons (kLe (isX rfl) (isZ (m := 255) rfl) (decide_eq_true (by omega))) ?_
  refine hcons (kGe (isX rfl) (isZ (m := 0) rfl) (decide_eq_true (by omega))) ?_
  refine hcons (kLe (isX rfl) (isZ (m := 65535) rfl) (decide_eq_true (by omega))) ?_
  refine hcons (kLe (isX rfl) (isZ (m := 65535) rfl) (decide_eq_false (by omega))) ?_
  refine hcons (kEqS (isX rfl) (isX rfl) (decide_eq_true rfl)) ?_
  refine hcons (kMax (isX rfl) (isZ (m := 0) rfl) (denX rfl) rfl) ?_
  refine hcons (kNeg (isX rfl) (denX rfl) (by omega) (fI64 (by omega) (by omega))) ?_
  refine hcons (kAndG 3 8 rfl (by decide) (isX rfl) (isZ (m := 7) rfl) (denX rfl) (fI64 (by omega) (by omega)) rfl rfl (fI64 (by omega) (by omega))) ?_
  refine hcons (kMax (isZ (m := 0) rfl) (isX rfl) (denX rfl) rfl) ?_
  refine hcons (kRem (isX rfl) (isZ (m := 8) rfl) (denX rfl) (by omega) (by omega) rfl) ?_
  refine hcons (kSub (isZ (m := 8) rfl) (isX rfl) (denX rfl) (by omega) (fI64 (by omega) (by omega))) ?_
  refine hcons (kRem (isX rfl) (isZ (m := 8) rfl) (denX rfl) (by omega) (by omega) rfl) ?_
  refine hcons (kEqI (isX rfl) (isX rfl) (decide_eq_true (by omega))) ?_
  exact hnil
theorem path31 (rt : Int) (ri : Int) (c : List UInt8) (rp : Int) (s : List UInt8) (n : Int) (b0 : -9223372036854775808 ≤ rt) (b1 : rt ≤ 9223372036854775807) (b2 : -9223372036854775808 ≤ ri) (b3 : ri ≤ 9223372036854775807) (b4 : c.length ≤ 9223372036854775807) (b5 : -9223372036854775808 ≤ rp) (b6 : rp ≤ 9223372036854775807) (b7 : s.length ≤ 9223372036854775807) (b8 : -9223372036854775808 ≤ n) (b9 : n ≤ 9223372036854775807) (h0 : ¬ (3000 < (s.length : Int))) (h1 : ¬ (70000 < (c.length : Int))) (h2 : (s.length : Int) = 0) (h5 : 1 ≤ rt) (h6 : rt ≤ 255) (h7 : 0 ≤ ri) (h8 : ri ≤ 65535) (h9 : ¬ ((c.length : Int) ≤ 65535)) (w : World) (hl : laidE w) : Calls Tryd.prog 5 #[.agg #[.int .i64 rt, .int .i64 ri, St' c, .int .i64 rp], St' s, .int .i64 n] w fun e w' => e = .returned (.bool true) ∧ Go.AX.Below w.heap.size w w' := by
  obtain ⟨fi, hfi, hb⟩ : ∃ fi, tabk.fn.get 5 = some fi ∧ fi.body.isSome = true := ⟨_, rfl, by kernel_rfl⟩
  exact runP (tb := tab31) ((tabkOk (nuL (nu31 rt ri c rp s n)) (one31 rt ri c rp s n)).hyps (hyOk31 rt ri c rp s n b0 b1 b2 b3 b4 b5 b6 b7 b8 b9 h0 h1 h2 h5 h6 h7 h8 h9)) rfl hfi hb (fun e => run31 e ) (args := [.agg #[.int .i64 rt, .int .i64 ri, St' c, .int .i64 rp], St' s, .int .i64 n]) (by simp only [RelL, Rel]; exact ⟨_, _, rfl, ⟨_, rfl, ⟨_, _, rfl, rfl, ⟨_, _, rfl, rfl, ⟨_, _, rfl, rfl, ⟨_, _, rfl, rfl, rfl⟩⟩⟩⟩⟩, ⟨_, _, rfl, rfl, ⟨_, _, rfl, rfl, rfl⟩⟩⟩) w hl
def hy32 : List (HK × AV) := [(.len (.x 4), .x 6),
  (.bin .gtr (.x 6) (.i .i64 (.ofNat 3000)), .b false),
  (.len (.x 2), .x 7),
  (.bin .gtr (.x 7) (.i .i64 (.ofNat 70000)), .b false),
  (.bin .neq (.x 4) (.s 0 0), .b true),
  (.idx (.x 4) (.i .i64 (.ofNat 0)), .x 8),
  (.bin .neq (.x 8) (.i .u8 (.ofNat 1)), .b true),
  (.bin .gtr (.x 6) (.i .i64 (.ofNat 0)), .b true),
  (.bin .geq (.x 0) (.i .i64 (.ofNat 1)), .b true),
  (.bin .leq (.x 0) (.i .i64 (.ofNat 255)), .b true),
  (.bin .geq (.x 1) (.i .i64 (.ofNat 0)), .b true),
  (.bin .leq (.x 1) (.i .i64 (.ofNat 65535)), .b true),
  (.bin .leq (.x 7) (.i .i64 (.ofNat 65535)), .b false),
  (.bin .eql (.x 4) (.x 4), .b true),
  (.mm true (.x 5) (.i .i64 (.ofNat 0)), .x 9),
  (.un .neg (.x 9), .x 10),
  (.bin .and (.x 10) (.i .i64 (.ofNat 7)), .x 11),
  (.mm true (.i .i64 (.ofNat 0)) (.x 5), .x 12),
  (.bin .rem (.x 12) (.i .i64 (.ofNat 8)), .x 13),
  (.bin .sub (.i .i64 (.ofNat 8)) (.x 13), .x 14),
  (.bin .rem (.x 14) (.i .i64 (.ofNat 8)), .x 15),
  (.bin .eql (.x 11) (.x 15), .b true)]
noncomputable def tab32 : Tab := { tabk with hyp := hy32 }
theorem run32 (e : Nat) : okB (call tab32 9000 5 [.ag [.x 0, .x 1, .x 2, .x 3], .x 4, .x 5] ⟨H0 e , 7, 0, 0⟩) = true := by kernel_rfl
def nu32 (rt : Int) (ri : Int) (c : List UInt8) (rp : Int) (s : List UInt8) (n : Int) : List Value := [.int .i64 (rt),
  .int .i64 (ri),
  St' c,
  .int .i64 (rp),
  St' s,
  .int .i64 (n),
  .int .i64 ((s.length : Int)),
  .int .i64 ((c.length : Int)),
  .int .u8 (bt s 0),
  .int .i64 (max n 0),
  .int .i64 (-((max n 0))),
  .int .i64 ((-((max n 0))) % 8),
  .int .i64 (max 0 n),
  .int .i64 ((max 0 n) % 8),
  .int .i64 (8 - ((max 0 n) % 8)),
  .int .i64 ((8 - ((max 0 n) % 8)) % 8)]
theorem one32 (rt : Int) (ri : Int) (c : List UInt8) (rp : Int) (s : List UInt8) (n : Int) : ∀ j, (nuL (nu32 rt ri c rp s n) j).oneCell' = true := nuL_one (l := nu32 rt ri c rp s n) rfl
set_option maxHeartbeats 2000000 in
theorem hyOk32 (rt : Int) (ri : Int) (c : List UInt8) (rp : Int) (s : List UInt8) (n : Int) (b0 : -9223372036854775808 ≤ rt) (b1 : rt ≤ 9223372036854775807) (b2 : -9223372036854775808 ≤ ri) (b3 : ri ≤ 9223372036854775807) (b4 : c.length ≤ 9223372036854775807) (b5 : -9223372036854775808 ≤ rp) (b6 : rp ≤ 9223372036854775807) (b7 : s.length ≤ 9223372036854775807) (b8 : -9223372036854775808 ≤ n) (b9 : n ≤ 9223372036854775807) (h0 : ¬ (3000 < (s.length : Int))) (h1 : ¬ (70000 < (c.length : Int))) (h2 : ¬ ((s.length : Int) = 0)) (h3 : ¬ (bt s 0 = 1)) (h5 : 1 ≤ rt) (h6 : rt ≤ 255) (h7 : 0 ≤ ri) (h8 : ri ≤ 65535) (h9 : ¬ ((c.length : Int) ≤ 65535)) : ∀ k r, (k, r) ∈ hy32 → HOk (cx (nuL (nu32 rt ri c rp s n)) (one32 rt ri c rp s n) 1 laidE laidE_stab) k r := by
  have := bt_lo s 0; have := bt_hi s 0
  unfold hy32
  refine hcons (kLenE (isX rfl) (denX rfl) (by first | omega | (simp only [List.length_append, List.length_cons, List.length_nil, List.length_take, List.length_drop, List.length_replicate, Int.natCast_add] at *; omega))) ?_
  refine hcons (kGt (isX rfl) (isZ (m := 3000) rfl) (decide_eq_false (by omega))) ?_
  refine hcons (kLenE (isX rfl) (denX rfl) (by first | omega | (simp only [List.length_append, List.length_cons, List.length_nil, List.length_take, List.length_drop, List.length_replicate, Int.natCast_add] at *; omega))) ?_
  refine hcons (kGt (isX rfl) (isZ (m := 70000) rfl) (decide_eq_false (by omega))) ?_
  refine hcons (kNeS (isX rfl) (isSx (l := ([] : List UInt8)) 0 0 rfl) (bnT (by first | exact nilT (by first | omega | (simp only [List.length_append, List.length_cons, List.length_nil, List.length_take, List.length_drop, List.length_replicate, Int.natCast_add] at *; omega)) | exact nilF (by first | omega | (simp only [List.length_append, List.length_cons, List.length_nil, List.length_take, List.length_drop, List.length_replicate, Int.natCast_add] at *; omega)) | exact nilT' (by first | omega | (simp only [List.length_append, List.length_cons, List.length_nil, List.length_take, List.length_drop, List.length_replicate, Int.natCast_add] at *; omega)) | exact nilF' (by first | omega | (simp only [List.length_append, List.length_cons, List.length_nil, List.length_take, List.length_drop, List.length_replicate, Int.natCast_add] at *; omega))))) ?_
  refine hcons (kIdxE (i := 0) (isX rfl) (isZ (m := 0) rfl) (denX rfl) rfl (by first | omega | (simp only [List.length_append, List.length_cons, List.length_nil, List.length_take, List.length_drop, List.length_replicate, Int.natCast_add] at *; omega)) rfl) ?_
  refine hcons (kNeI (isX rfl) (isZ (m := 1) rfl) (neT (by omega))) ?_
  refine hcons (kGt (isX rfl) (isZ (m := 0) rfl) (decide_eq_true (by omega))) ?_
  refine hcons (kGe (isX rfl) (isZ (m := 1) rfl) (decide_eq_true (by omega))) ?_
  refine hcons (kLe (isX rfl) (isZ (m := 255) rfl) (decide_eq_true (by omega))) ?_
  refine hcons (kGe (isX rfl) (isZ (m := 0) rfl) (decide_eq_true (by omega))) ?_
  refine hcons (kLe (isX rfl) (isZ (m := 65535) rfl) (decide_eq_true (by omega))) ?_
  refine hcons (kLe (isX rfl) (isZ (m := 65535) rfl) (decide_eq_false (by omega))) ?_
  refine hcons (kEqS (isX rfl) (isX rfl) (decide_eq_true rfl)) ?_
  refine hcons (kMax (isX rfl) (isZ (m := 0) rfl) (denX rfl) rfl) ?_
  refine hcons (kNeg (isX rfl) (denX rfl) (by omega) (fI64 (by omega) (by omega))) ?_
  refine hcons (kAndG 3 8 rfl (by decide) (isX rfl) (isZ (m := 7) rfl) (denX rfl) (fI64 (by omega) (by omega)) rfl rfl (fI64 (by omega) (by omega))) ?_
  refine hcons (kMax (isZ (m := 0) rfl) (isX rfl) (denX rfl) rfl) ?_
  refine hcons (kRem (isX rfl) (isZ (m := 8) rfl) (denX rfl) (by omega) (by omega) rfl) ?_
  refine hcons (kSub (isZ (m := 8) rfl) (isX rfl) (denX rfl) (by omega) (fI64 (by omega) (by omega))) ?_
  refine hcons (kRem (isX rfl) (isZ (m := 8) rfl) (denX rfl) (by omega) (by omega) rfl) ?_
  refine hcons (kEqI (isX rfl) (isX rfl) (decide_eq_true (by omega))) ?_
  exact hnil
theorem path32 (rt : Int) (ri : Int) (c : List UInt8) (rp : Int) (s : List UInt8) (n : Int) (b0 : -9223372036854775808 ≤ rt) (b1 : rt ≤ 9223372036854775807) (b2 : -9223372036854775808 ≤ ri) (b3 : ri ≤ 9223372036854775807) (b4 : c.length ≤ 9223372036854775807) (b5 : -9223372036854775808 ≤ rp) (b6 : rp ≤ 9223372036854775807) (b7 : s.length ≤ 9223372036854775807) (b8 : -9223372036854775808 ≤ n) (b9 : n ≤ 9223372036854775807) (h0 : ¬ (3000 < (s.length : Int))) (h1 : ¬ (70000 < (c.length : Int))) (h2 : ¬ ((s.length : Int) = 0)) (h3 : ¬ (bt s 0 = 1)) (h5 : 1 ≤ rt) (h6 : rt ≤ 255) (h7 : 0 ≤ ri) (h8 : ri ≤ 65535) (h9 : ¬ ((c.length : Int) ≤ 65535)) (w : World) (hl : laidE w) : Calls Tryd.prog 5 #[.agg #[.int .i64 rt, .int .i64 ri, St' c, .int .i64 rp], St' s, .int .i64 n] w fun e w' => e = .returned (.bool true) ∧ Go.AX.Below w.heap.size w w' := by
  obtain ⟨fi, hfi, hb⟩ : ∃ fi, tabk.fn.get 5 = some fi ∧ fi.body.isSome = true := ⟨_, rfl, by kernel_rfl⟩
  exact runP (tb := tab32) ((tabkOk (nuL (nu32 rt ri c rp s n)) (one32 rt ri c rp s n)).hyps (hyOk32 rt ri c rp s n b0 b1 b2 b3 b4 b5 b6 b7 b8 b9 h0 h1 h2 h3 h5 h6 h7 h8 h9)) rfl hfi hb (fun e => run32 e ) (args := [.agg #[.int .i64 rt, .int .i64 ri, St' c, .int .i64 rp], St' s, .int .i64 n]) (by simp only [RelL, Rel]; exact ⟨_, _, rfl, ⟨_, rfl, ⟨_, _, rfl, rfl, ⟨_, _, rfl, rfl, ⟨_, _, rfl, rfl, ⟨_, _, rfl, rfl, rfl⟩⟩⟩⟩⟩, ⟨_, _, rfl, rfl, ⟨_, _, rfl, rfl, rfl⟩⟩⟩) w hl
def hy33 : List (HK × AV) := [(.len (.x 4), .x 6),
  (.bin .gtr (.x 6) (.i .i64 (.ofNat 3000)), .b false),
  (.len (.x 2), .x 7),
  (.bin .gtr (.x 7) (.i .i64 (.ofNat 70000)), .b false),
  (.bin .neq (.x 4) (.s 0 0), .b true),
  (.idx (.x 4) (.i .i64 (.ofNat 0)), .x 8),
  (.bin .neq (.x 8) (.i .u8 (.ofNat 1)), .b false),
  (.bin .lss (.x 6) (.i .i64 (.ofNat 8)), .b true),
  (.bin .gtr (.x 6) (.i .i64 (.ofNat 0)), .b true),
  (.bin .geq (.x 0) (.i .i64 (.ofNat 1)), .b true),
  (.bin .leq (.x 0) (.i .i64 (.ofNat 255)), .b true),
  (.bin .geq (.x 1) (.i .i64 (.ofNat 0)), .b true),
  (.bin .leq (.x 1) (.i .i64 (.ofNat 65535)), .b true),
  (.bin .leq (.x 7) (.i .i64 (.ofNat 65535)), .b false),
  (.bin .eql (.x 4) (.x 4), .b true),
  (.mm true (.x 5) (.i .i64 (.ofNat 0)), .x 9),
  (.un .neg (.x 9), .x 10),
  (.bin .and (.x 10) (.i .i64 (.ofNat 7)), .x 11),
  (.mm true (.i .i64 (.ofNat 0)) (.x 5), .x 12),
  (.bin .rem (.x 12) (.i .i64 (.ofNat 8)), .x 13),
  (.bin .sub (.i .i64 (.ofNat 8)) (.x 13), .x 14),
  (.bin .rem (.x 14) (.i .i64 (.ofNat 8)), .x 15),
  (.bin .eql (.x 11) (.x 15), .b true)]
noncomputable def tab33 : Tab := { tabk with hyp := hy33 }
theorem run33 (e : Nat) : okB (call tab33 9000 5 [.ag [.x 0, .x 1, .x 2, .x 3], .x 4, .x 5] ⟨H0 e , 7, 0, 0⟩) = true := by kernel_rfl
def nu33 (rt : Int) (ri : Int) (c : List UInt8) (rp : Int) (s : List UInt8) (n : Int) : List Value := [.int .i64 (rt),
  .int .i64 (ri),
  St' c,
  .int .i64 (rp),
  St' s,
  .int .i64 (n),
  .int .i64 ((s.length : Int)),
  .int .i64 ((c.length : Int)),
  .int .u8 (bt s 0),
  .int .i64 (max n 0),
  .int .i64 (-((max n 0))),
  .int .i64 ((-((max n 0))) % 8),
  .int .i64 (max 0 n),
  .int .i64 ((max 0 n) % 8),
  .int .i64 (8 - ((max 0 n) % 8)),
  .int .i64 ((8 - ((max 0 n) % 8)) % 8)]
theorem one33 (rt : Int) (ri : Int) (c : List UInt8) (rp : Int) (s : List UInt8) (n : Int) : ∀ j, (nuL (nu33 rt ri c rp s n) j).oneCell' = true := nuL_one (l := nu33 rt ri c rp s n) rfl
set_option maxHeartbeats 2000000 in
theorem hyOk33 (rt : Int) (ri : Int) (c : List UInt8) (rp : Int) (s : List UInt8) (n : Int) (b0 : -9223372036854775808 ≤ rt) (b1 : rt ≤ 9223372036854775807) (b2 : -9223372036854775808 ≤ ri) (b3 : ri ≤ 9223372036854775807) (b4 : c.length ≤ 9223372036854775807) (b5 : -9223372036854775808 ≤ rp) (b6 : rp ≤ 9223372036854775807) (b7 : s.length ≤ 9223372036854775807) (b8 : -9223372036854775808 ≤ n) (b9 : n ≤ 9223372036854775807) (h0 : ¬ (3000 < (s.length : Int))) (h1 : ¬ (70000 < (c.length : Int))) (h2 : ¬ ((s.length : Int) = 0)) (h3 : bt s 0 = 1) (h4 : (s.length : Int) < 8) (h6 : 1 ≤ rt) (h7 : rt ≤ 255) (h8 : 0 ≤ ri) (h9 : ri ≤ 65535) (h10 : ¬ ((c.length : Int) ≤ 65535)) : ∀ k r, (k, r) ∈ hy33 → HOk (cx (nuL (nu33 rt ri c rp s n)) (one33 rt ri c rp s n) 1 laidE laidE_stab) k r := by
  have := bt_lo s 0; have := bt_hi s 0
  unfold hy33
  refine hcons (kLenE (isX rfl) (denX rfl) (by first | omega | (simp only [List.length_append, List.length_cons, List.length_nil, List.length_take, List.length_drop, List.length_replicate, Int.natCast_add] at *; omega))) ?_
  refine hcons (kGt (isX rfl) (isZ (m := 3000) rfl) (decide_eq_false (by omega))) ?_
  refine hcons (kLenE (isX rfl) (denX rfl) (by first | omega | (simp only [List.length_append, List.length_cons, List.length_nil, List.length_take, List.length_drop, List.length_replicate, Int.natCast_add] at *; omega))) ?_
  refine hcons (kGt (isX rfl) (isZ (m := 70000) rfl) (decide_eq_false (by omega))) ?_
  refine hcons (kNeS (isX rfl) (isSx (l := ([] : List UInt8)) 0 0 rfl) (bnT (by first | exact nilT (by first | omega | (simp only [List.length_append, List.length_cons, List.length_nil, List.length_take, List.length_drop, List.length_replicate, Int.natCast_add] at *; omega)) | exact nilF (by first | omega | (simp only [List.length_append, List.length_cons, List.length_nil, List.length_take, List.length_drop, List.length_replicate, Int.natCast_add] at *; omega)) | exact nilT' (by first | omega | (simp only [List.length_append, List.length_cons, List.length_nil, List.length_take, List.length_drop, List.length_replicate, Int.natCast_add] at *; omega)) | exact nilF' (by first | omega | (simp only [List.length_append, List.length_cons, List.length_nil, List.length_take, List.length_drop, List.length_replicate, Int.natCast_add] at *; omega))))) ?_
  refine hcons (kIdxE (i := 0) (isX rfl) (isZ (m := 0) rfl) (denX rfl) rfl (by first | omega | (simp only [List.length_append, List.length_cons, List.length_nil, List.length_take, List.length_drop, List.length_replicate, Int.natCast_add] at *; omega)) rfl) ?_
  refine hcons (kNeI (isX rfl) (isZ (m := 1) rfl) (neF (by omega))) ?_
  refine hcons (kLt (isX rfl) (isZ (m := 8) rfl) (decide_eq_true (by omega))) ?_
  refine hcons (kGt (isX rfl) (isZ (m := 0) rfl) (decide_eq_true (by omega))) ?_
  refine hcons (kGe (isX rfl) (isZ (m := 1) rfl) (decide_eq_true (by omega))) ?_
  refine hcons (kLe (isX rfl) (isZ (m := 255) rfl) (decide_eq_true (by omega))) ?_
  refine hcons (kGe (isX rfl) (isZ (m := 0) rfl) (decide_eq_true (by omega))) ?_
  refine hcons (kLe (isX rfl) (isZ (m := 65535) rfl) (decide_eq_true (by omega))) ?_
  refine hcons (kLe (isX rfl) (isZ (m := 65535) rfl) (decide_eq_false (by omega))) ?_
  refine hcons (kEqS (isX rfl) (isX rfl) (decide_eq_true rfl)) ?_
  refine hcons (kMax (isX rfl) (isZ (m := 0) rfl) (denX rfl) rfl) ?_
  refine hcons (kNeg (isX rfl) (denX rfl) (by omega) (fI64 (by omega) (by omega))) ?_
  refine hcons (kAndG 3 8 rfl (by decide) (isX rfl) (isZ (m := 7) rfl) (denX rfl) (fI64 (by omega) (by omega)) rfl rfl (fI64 (by omega) (by omega))) ?_
  refine hcons (kMax (isZ (m := 0) rfl) (isX rfl) (denX rfl) rfl) ?_
  refine hcons (kRem (isX rfl) (isZ (m := 8) rfl) (denX rfl) (by omega) (by omega) rfl) ?_
  refine hcons (kSub (isZ (m := 8) rfl) (isX rfl) (denX rfl) (by omega) (fI64 (by omega) (by omega))) ?_
  refine hcons (kRem (isX rfl) (isZ (m := 8) rfl) (denX rfl) (by omega) (by omega) rfl) ?_
  refine hcons (kEqI (isX rfl) (isX rfl) (decide_eq_true (by omega))) ?_
  exact hnil
theorem path33 (rt : Int) (ri : Int) (c : List UInt8) (rp : Int) (s : List UInt8) (n : Int) (b0 : -9223372036854775808 ≤ rt) (b1 : rt ≤ 9223372036854775807) (b2 : -9223372036854775808 ≤ ri) (b3 : ri ≤ 9223372036854775807) (b4 : c.length ≤ 9223372036854775807) (b5 : -9223372036854775808 ≤ rp) (b6 : rp ≤ 9223372036854775807) (b7 : s.length ≤ 9223372036854775807) (b8 : -9223372036854775808 ≤ n) (b9 : n ≤ 9223372036854775807) (h0 : ¬ (3000 < (s.length : Int))) (h1 : ¬ (70000 < (c.length : Int))) (h2 : ¬ ((s.length : Int) = 0)) (h3 : bt s 0 = 1) (h4 : (s.length : Int) < 8) (h6 : 1 ≤ rt) (h7 : rt ≤ 255) (h8 : 0 ≤ ri) (h9 : ri ≤ 65535) (h10 : ¬ ((c.length : Int) ≤ 65535)) (w : World) (hl : laidE w) : Calls Tryd.prog 5 #[.agg #[.int .i64 rt, .int .i64 ri, St' c, .int .i64 rp], St' s, .int .i64 n] w fun e w' => e = .returned (.bool true) ∧ Go.AX.Below w.heap.size w w' := by
  obtain ⟨fi, hfi, hb⟩ : ∃ fi, tabk.fn.get 5 = some fi ∧ fi.body.isSome = true := ⟨_, rfl, by kernel_rfl⟩
  exact runP (tb := tab33) ((tabkOk (nuL (nu33 rt ri c rp s n)) (one33 rt ri c rp s n)).hyps (hyOk33 rt ri c rp s n b0 b1 b2 b3 b4 b5 b6 b7 b8 b9 h0 h1 h2 h3 h4 h6 h7 h8 h9 h10)) rfl hfi hb (fun e => run33 e ) (args := [.agg #[.int .i64 rt, .int .i64 ri, St' c, .int .i64 rp], St' s, .int .i64 n]) (by simp only [RelL, Rel]; exact ⟨_, _, rfl, ⟨_, rfl, ⟨_, _, rfl, rfl, ⟨_, _, rfl, rfl, ⟨_, _, rfl, rfl, ⟨_, _, rfl, rfl, rfl⟩⟩⟩⟩⟩, ⟨_, _, rfl, rfl, ⟨_, _, rfl, rfl, rfl⟩⟩⟩) w hl
def hy34 : List (HK × AV) := [(.len (.x 4), .x 6),
  (.bin .gtr (.x 6) (.i .i64 (.ofNat 3000)), .b false),
  (.len (.x 2), .x 7),
  (.bin .gtr (.x 7) (.i .i64 (.ofNat 70000)), .b false),
  (.bin .neq (.x 4) (.s 0 0), .b true),
  (.idx (.x 4) (.i .i64 (.ofNat 0)), .x 8),
  (.bin .neq (.x 8) (.i .u8 (.ofNat 1)), .b false),
  (.bin .lss (.x 6) (.i .i64 (.ofNat 8)), .b false),
  (.idx (.x 4) (.i .i64 (.ofNat 4)), .x 9),
  (.conv 3 (.x 9), .x 10),
  (.bin .shl (.x 10) (.i .u64 (.ofNat 8)), .x 11),
  (.bin .add (.i .i64 (.ofNat 8)) (.x 11), .x 12),
  (.idx (.x 4) (.i .i64 (.ofNat 5)), .x 13),
  (.conv 3 (.x 13), .x 14),
  (.bin .add (.x 12) (.x 14), .x 15),
  (.idx (.x 4) (.i .i64 (.ofNat 6)), .x 16),
  (.conv 3 (.x 16), .x 17),
  (.bin .add (.x 15) (.x 17), .x 18),
  (.bin .lss (.x 6) (.x 18), .b false),
  (.idx (.x 4) (.i .i64 (.ofNat 1)), .x 19),
  (.bin .eql (.x 19) (.i .u8 (.ofNat 0)), .b false),
  (.conv 3 (.x 19), .x 20),
  (.idx (.x 4) (.i .i64 (.ofNat 2)), .x 21),
  (.conv 3 (.x 21), .x 22),
  (.bin .shl (.x 22) (.i .u64 (.ofNat 8)), .x 23),
  (.idx (.x 4) (.i .i64 (.ofNat 3)), .x 24),
  (.conv 3 (.x 24), .x 25),
  (.bin .or (.x 23) (.x 25), .x 26),
  (.bin .sub (.x 18) (.x 17), .x 27),
  (.sub (.x 4) (some (.i .i64 (.ofNat 8))) (some (.x 27)), .x 28),
  (.sub (.x 4) (some (.x 18)) none, .x 29),
  (.bin .gtr (.x 6) (.i .i64 (.ofNat 0)), .b true),
  (.bin .mul (.x 10) (.i .i64 (.ofNat 256)), .x 30),
  (.bin .add (.x 30) (.x 14), .x 31),
  (.bin .add (.i .i64 (.ofNat 8)) (.x 31), .x 32),
  (.bin .add (.x 32) (.x 17), .x 33),
  (.bin .lss (.x 6) (.x 33), .b false),
  (.bin .mul (.x 22) (.i .i64 (.ofNat 256)), .x 34),
  (.bin .add (.x 34) (.x 25), .x 35),
  (.sub (.x 4) (some (.i .i64 (.ofNat 8))) (some (.x 32)), .x 36),
  (.sub (.x 4) (some (.x 33)) none, .x 37),
  (.bin .geq (.x 0) (.i .i64 (.ofNat 1)), .b true),
  (.bin .leq (.x 0) (.i .i64 (.ofNat 255)), .b true),
  (.bin .geq (.x 1) (.i .i64 (.ofNat 0)), .b true),
  (.bin .leq (.x 1) (.i .i64 (.ofNat 65535)), .b true),
  (.bin .leq (.x 7) (.i .i64 (.ofNat 65535)), .b false),
  (.eq 3 (.x 20) (.x 20), .b true),
  (.eq 3 (.x 26) (.x 35), .b true),
  (.eq 9 (.x 28) (.x 36), .b true),
  (.eq 3 (.x 17) (.x 17), .b true),
  (.bin .eql (.x 29) (.x 37), .b true),
  (.mm true (.x 5) (.i .i64 (.ofNat 0)), .x 38),
  (.un .neg (.x 38), .x 39),
  (.bin .and (.x 39) (.i .i64 (.ofNat 7)), .x 40),
  (.mm true (.i .i64 (.ofNat 0)) (.x 5), .x 41),
  (.bin .rem (.x 41) (.i .i64 (.ofNat 8)), .x 42),
  (.bin .sub (.i .i64 (.ofNat 8)) (.x 42), .x 43),
  (.bin .rem (.x 43) (.i .i64 (.ofNat 8)), .x 44),
  (.bin .eql (.x 40) (.x 44), .b true)]
noncomputable def tab34 : Tab := { tabk with hyp := hy34 }
theorem run34 (e : Nat) : okB (call tab34 9000 5 [.ag [.x 0, .x 1, .x 2, .x 3], .x 4, .x 5] ⟨H0 e , 7, 0, 0⟩) = true := by kernel_rfl
def nu34 (rt : Int) (ri : Int) (c : List UInt8) (rp : Int) (s : List UInt8) (n : Int) : List Value := [.int .i64 (rt),
  .int .i64 (ri),
  St' c,
  .int .i64 (rp),
  St' s,
  .int .i64 (n),
  .int .i64 ((s.length : Int)),
  .int .i64 ((c.length : Int)),
  .int .u8 (bt s 0),
  .int .u8 (bt s 4),
  .int .i64 ((bt s 4)),
  .int .i64 ((bt s 4) * 256),
  .int .i64 ((bt s 4) * 256 + 8),
  .int .u8 (bt s 5),
  .int .i64 ((bt s 5)),
  .int .i64 ((bt s 4) * 256 + (bt s 5) + 8),
  .int .u8 (bt s 6),
  .int .i64 ((bt s 6)),
  .int .i64 ((bt s 4) * 256 + (bt s 5) + (bt s 6) + 8),
  .int .u8 (bt s 1),
  .int .i64 ((bt s 1)),
  .int .u8 (bt s 2),
  .int .i64 ((bt s 2)),
  .int .i64 ((bt s 2) * 256),
  .int .u8 (bt s 3),
  .int .i64 ((bt s 3)),
  .int .i64 ((bt s 2) * 256 + (bt s 3)),
  .int .i64 ((bt s 4) * 256 + (bt s 5) + 8),
  St' ((List.take ((bt s 4) * 256 + (bt s 5) + 8 - (8)).toNat (List.drop (Int.toNat 8) s))),
  St' ((List.take ((s.length : Int) - ((bt s 4) * 256 + (bt s 5) + (bt s 6) + 8)).toNat (List.drop ((bt s 4) * 256 + (bt s 5) + (bt s 6) + 8).toNat s))),
  .int .i64 ((bt s 4) * 256),
  .int .i64 ((bt s 4) * 256 + (bt s 5)),
  .int .i64 ((bt s 4) * 256 + (bt s 5) + 8),
  .int .i64 ((bt s 4) * 256 + (bt s 5) + (bt s 6) + 8),
  .int .i64 ((bt s 2) * 256),
  .int .i64 ((bt s 2) * 256 + (bt s 3)),
  St' ((List.take ((bt s 4) * 256 + (bt s 5) + 8 - (8)).toNat (List.drop (Int.toNat 8) s))),
  St' ((List.take ((s.length : Int) - ((bt s 4) * 256 + (bt s 5) + (bt s 6) + 8)).toNat (List.drop ((bt s 4) * 256 + (bt s 5) + (bt s 6) + 8).toNat s))),
  .int .i64 (max n 0),
  .int .i64 (-((max n 0))),
  .int .i64 ((-((max n 0))) % 8),
  .int .i64 (max 0 n),
  .int .i64 ((max 0 n) % 8),
  .int .i64 (8 - ((max 0 n) % 8)),
  .int .i64 ((8 - ((max 0 n) % 8)) % 8)]
theorem one34 (rt : Int) (ri : Int) (c : List UInt8) (rp : Int) (s : List UInt8) (n : Int) : ∀ j, (nuL (nu34 rt ri c rp s n) j).oneCell' = true := nuL_one (l := nu34 rt ri c rp s n) rfl
set_option maxHeartbeats 2000000 in
theorem hyOk34 (rt : Int) (ri : Int) (c : List UInt8) (rp : Int) (s : List UInt8) (n : Int) (b0 : -9223372036854775808 ≤ rt) (b1 : rt ≤ 9223372036854775807) (b2 : -9223372036854775808 ≤ ri) (b3 : ri ≤ 9223372036854775807) (b4 : c.length ≤ 9223372036854775807) (b5 : -9223372036854775808 ≤ rp) (b6 : rp ≤ 9223372036854775807) (b7 : s.length ≤ 9223372036854775807) (b8 : -9223372036854775808 ≤ n) (b9 : n ≤ 9223372036854775807) (h0 : ¬ (3000 < (s.length : Int))) (h1 : ¬ (70000 < (c.length : Int))) (h2 : ¬ ((s.length : Int) = 0)) (h3 : bt s 0 = 1) (h4 : ¬ ((s.length : Int) < 8)) (h5 : ¬ ((s.length : Int) < (bt s 4) * 256 + (bt s 5) + (bt s 6) + 8)) (h6 : ¬ (bt s 1 = 0)) (h9 : 1 ≤ rt) (h10 : rt ≤ 255) (h11 : 0 ≤ ri) (h12 : ri ≤ 65535) (h13 : ¬ ((c.length : Int) ≤ 65535)) : ∀ k r, (k, r) ∈ hy34 → HOk (cx (nuL (nu34 rt ri c rp s n)) (one34 rt ri c rp s n) 1 laidE laidE_stab) k r := by
  have := bt_lo s 0; have := bt_hi s 0
  have := bt_lo s 4; have := bt_hi s 4
  have := bt_lo s 5; have := bt_hi s 5
  have := bt_lo s 6; have := bt_hi s 6
  have := bt_lo s 1; have := bt_hi s 1
  have := bt_lo s 2; have := bt_hi s 2
  have := bt_lo s 3; have := bt_hi s 3
  unfold hy34
  refine hcons (kLenE (isX rfl) (denX rfl) (by first | omega | (simp only [List.length_append, List.length_cons, List.length_nil, List.length_take, List.length_drop, List.length_replicate, Int.natCast_add] at *; omega))) ?_
  refine hcons (kGt (isX rfl) (isZ (m := 3000) rfl) (decide_eq_false (by omega))) ?_
  refine hcons (kLenE (isX rfl) (denX rfl) (by first | omega | (simp only [List.length_append, List.length_cons, List.length_nil, List.length_take, List.length_drop, List.length_replicate, Int.natCast_add] at *; omega))) ?_
  refine hcons (kGt (isX rfl) (isZ (m := 70000) rfl) (decide_eq_false (by omega))) ?_
  refine hcons (kNeS (isX rfl) (isSx (l := ([] : List UInt8)) 0 0 rfl) (bnT (by first | exact nilT (by first | omega | (simp only [List.length_append, List.length_cons, List.length_nil, List.length_take, List.length_drop, List.length_replicate, Int.natCast_add] at *; omega)) | exact nilF (by first | omega | (simp only [List.length_append, List.length_cons, List.length_nil, List.length_take, List.length_drop, List.length_replicate, Int.natCast_add] at *; omega)) | exact nilT' (by first | omega | (simp only [List.length_append, List.length_cons, List.length_nil, List.length_take, List.length_drop, List.length_replicate, Int.natCast_add] at *; omega)) | exact nilF' (by first | omega | (simp only [List.length_append, List.length_cons, List.length_nil, List.length_take, List.length_drop, List.length_replicate, Int.natCast_add] at *; omega))))) ?_
  refine hcons (kIdxE (i := 0) (isX rfl) (isZ (m := 0) rfl) (denX rfl) rfl (by first | omega | (simp only [List.length_append, List.length_cons, List.length_nil, List.length_take, List.length_drop, List.length_replicate, Int.natCast_add] at *; omega)) rfl) ?_
  refine hcons (kNeI (isX rfl) (isZ (m := 1) rfl) (neF (by omega))) ?_
  refine hcons (kLt (isX rfl) (isZ (m := 8) rfl) (decide_eq_false (by omega))) ?_
  refine hcons (kIdxE (i := 4) (isX rfl) (isZ (m := 4) rfl) (denX rfl) rfl (by first | omega | (simp only [List.length_append, List.length_cons, List.length_nil, List.length_take, List.length_drop, List.length_replicate, Int.natCast_add] at *; omega)) rfl) ?_
  refine hcons (kConvF (isX rfl) tu3 (denX rfl) (fI64 (by omega) (by omega))) ?_
  refine hcons (kShlM 8 256 rfl (isX rfl) (isZ (m := 8) rfl) (denX rfl) rfl (by decide) (by omega) (fI64 (by omega) (by omega))) ?_
  refine hcons (kAdd (isZ (m := 8) rfl) (isX rfl) (denX rfl) (by omega) (fI64 (by omega) (by omega))) ?_
  refine hcons (kIdxE (i := 5) (isX rfl) (isZ (m := 5) rfl) (denX rfl) rfl (by first | omega | (simp only [List.length_append, List.length_cons, List.length_nil, List.length_take, List.length_drop, List.length_replicate, Int.natCast_add] at *; omega)) rfl) ?_
  refine hcons (kConvF (isX rfl) tu3 (denX rfl) (fI64 (by omega) (by omega))) ?_
  refine hcons (kAdd (isX rfl) (isX rfl) (denX rfl) (by omega) (fI64 (by omega) (by omega))) ?_
  refine hcons (kIdxE (i := 6) (isX rfl) (isZ (m := 6) rfl) (denX rfl) rfl (by first | omega | (simp only [List.length_append, List.length_cons, List.length_nil, List.length_take, List.length_drop, List.length_replicate, Int.natCast_add] at *; omega)) rfl) ?_
  refine hcons (kConvF (isX rfl) tu3 (denX rfl) (fI64 (by omega) (by omega))) ?_
  refine hcons (kAdd (isX rfl) (isX rfl) (denX rfl) (by omega) (fI64 (by omega) (by omega))) ?_
  refine hcons (kLt (isX rfl) (isX rfl) (decide_eq_false (by omega))) ?_
  refine hcons (kIdxE (i := 1) (isX rfl) (isZ (m := 1) rfl) (denX rfl) rfl (by first | omega | (simp only [List.length_append, List.length_cons, List.length_nil, List.length_take, List.length_drop, List.length_replicate, Int.natCast_add] at *; omega)) rfl) ?_
  refine hcons (kEqI (isX rfl) (isZ (m := 0) rfl) (decide_eq_false (by omega))) ?_
  refine hcons (kConvF (isX rfl) tu3 (denX rfl) (fI64 (by omega) (by omega))) ?_
  refine hcons (kIdxE (i := 2) (isX rfl) (isZ (m := 2) rfl) (denX rfl) rfl (by first | omega | (simp only [List.length_append, List.length_cons, List.length_nil, List.length_take, List.length_drop, List.length_replicate, Int.natCast_add] at *; omega)) rfl) ?_
  refine hcons (kConvF (isX rfl) tu3 (denX rfl) (fI64 (by omega) (by omega))) ?_
  refine hcons (kShlM 8 256 rfl (isX rfl) (isZ (m := 8) rfl) (denX rfl) rfl (by decide) (by omega) (fI64 (by omega) (by omega))) ?_
  refine hcons (kIdxE (i := 3) (isX rfl) (isZ (m := 3) rfl) (denX rfl) rfl (by first | omega | (simp only [List.length_append, List.length_cons, List.length_nil, List.length_take, List.length_drop, List.length_replicate, Int.natCast_add] at *; omega)) rfl) ?_
  refine hcons (kConvF (isX rfl) tu3 (denX rfl) (fI64 (by omega) (by omega))) ?_
  refine hcons (kOrM 8 256 rfl (isX rfl) (isX rfl) (denX rfl) (by omega) (by omega) (fI64 (by omega) (by omega)) (fI64 (by omega) (by omega)) (by omega) (by omega) (by omega) (fI64 (by omega) (by omega))) ?_
  refine hcons (kSub (isX rfl) (isX rfl) (denX rfl) (by omega) (fI64 (by omega) (by omega))) ?_
  refine hcons (kMid (P := 8) (Q := (bt s 4) * 256 + (bt s 5) + 8) (isX rfl) (.inr ⟨_, _, rfl, (isZ (m := 8) rfl)⟩) (.inr ⟨_, _, rfl, (isX rfl)⟩) (by first | omega | (simp only [List.length_append, List.length_cons, List.length_nil, List.length_take, List.length_drop, List.length_replicate, Int.natCast_add] at *; omega)) (by first | omega | (simp only [List.length_append, List.length_cons, List.length_nil, List.length_take, List.length_drop, List.length_replicate, Int.natCast_add] at *; omega)) (by first | omega | (simp only [List.length_append, List.length_cons, List.length_nil, List.length_take, List.length_drop, List.length_replicate, Int.natCast_add] at *; omega)) (denX rfl)) ?_
  refine hcons (kMid (P := (bt s 4) * 256 + (bt s 5) + (bt s 6) + 8) (Q := (s.length : Int)) (isX rfl) (.inr ⟨_, _, rfl, (isX rfl)⟩) (.inl ⟨rfl, by first | omega | (simp only [List.length_append, List.length_cons, List.length_nil, List.length_take, List.length_drop, List.length_replicate, Int.natCast_add] at *; omega)⟩) (by first | omega | (simp only [List.length_append, List.length_cons, List.length_nil, List.length_take, List.length_drop, List.length_replicate, Int.natCast_add] at *; omega)) (by first | omega | (simp only [List.length_append, List.length_cons, List.length_nil, List.length_take, List.length_drop, List.length_replicate, Int.natCast_add] at *; omega)) (by first | omega | (simp only [List.length_append, List.length_cons, List.length_nil, List.length_take, List.length_drop, List.length_replicate, Int.natCast_add] at *; omega)) (denX rfl)) ?_
  refine hcons (kGt (isX rfl) (isZ (m := 0) rfl) (decide_eq_true (by omega))) ?_
  refine hcons (kMul (isX rfl) (isZ (m := 256) rfl) (denX rfl) (by omega) (fI64 (by omega) (by omega))) ?_
  refine hcons (kAdd (isX rfl) (isX rfl) (denX rfl) (by omega) (fI64 (by omega) (by omega))) ?_
  refine hcons (kAdd (isZ (m := 8) rfl) (isX rfl) (denX rfl) (by omega) (fI64 (by omega) (by omega))) ?_
  refine hcons (kAdd (isX rfl) (isX rfl) (denX rfl) (by omega) (fI64 (by omega) (by omega))) ?_
  refine hcons (kLt (isX rfl) (isX rfl) (decide_eq_false (by omega))) ?_
  refine hcons (kMul (isX rfl) (isZ (m := 256) rfl) (denX rfl) (by omega) (fI64 (by omega) (by omega))) ?_
  refine hcons (kAdd (isX rfl) (isX rfl) (denX rfl) (by omega) (fI64 (by omega) (by omega))) ?_
  refine hcons (kMid (P := 8) (Q := (bt s 4) * 256 + (bt s 5) + 8) (isX rfl) (.inr ⟨_, _, rfl, (isZ (m := 8) rfl)⟩) (.inr ⟨_, _, rfl, (isX rfl)⟩) (by first | omega | (simp only [List.length_append, List.length_cons, List.length_nil, List.length_take, List.length_drop, List.length_replicate, Int.natCast_add] at *; omega)) (by first | omega | (simp only [List.length_append, List.length_cons, List.length_nil, List.length_take, List.length_drop, List.length_replicate, Int.natCast_add] at *; omega)) (by first | omega | (simp only [List.length_append, List.length_cons, List.length_nil, List.length_take, List.length_drop, List.length_replicate, Int.natCast_add] at *; omega)) (denX rfl)) ?_
  refine hcons (kMid (P := (bt s 4) * 256 + (bt s 5) + (bt s 6) + 8) (Q := (s.length : Int)) (isX rfl) (.inr ⟨_, _, rfl, (isX rfl)⟩) (.inl ⟨rfl, by first | omega | (simp only [List.length_append, List.length_cons, List.length_nil, List.length_take, List.length_drop, List.length_replicate, Int.natCast_add] at *; omega)⟩) (by first | omega | (simp only [List.length_append, List.length_cons, List.length_nil, List.length_take, List.length_drop, List.length_replicate, Int.natCast_add] at *; omega)) (by first | omega | (simp only [List.length_append, List.length_cons, List.length_nil, List.length_take, List.length_drop, List.length_replicate, Int.natCast_add] at *; omega)) (by first | omega | (simp only [List.length_append, List.length_cons, List.length_nil, List.length_take, List.length_drop, List.length_replicate, Int.natCast_add] at *; omega)) (denX rfl)) ?_
  refine hcons (kGe (isX rfl) (isZ (m := 1) rfl) (decide_eq_true (by omega))) ?_
  refine hcons (kLe (isX rfl) (isZ (m := 255) rfl) (decide_eq_true (by omega))) ?_
  refine hcons (kGe (isX rfl) (isZ (m := 0) rfl) (decide_eq_true (by omega))) ?_
  refine hcons (kLe (isX rfl) (isZ (m := 65535) rfl) (decide_eq_true (by omega))) ?_
  refine hcons (kLe (isX rfl) (isZ (m := 65535) rfl) (decide_eq_false (by omega))) ?_
  refine hcons (kEqT (isX rfl) (isX rfl) tu3 (decide_eq_true (by omega))) ?_
  refine hcons (kEqT (isX rfl) (isX rfl) tu3 (decide_eq_true (by omega))) ?_
  refine hcons (kEqTS (isX rfl) (isX rfl) tu9 (decide_eq_true rfl)) ?_
  refine hcons (kEqT (isX rfl) (isX rfl) tu3 (decide_eq_true (by omega))) ?_
  refine hcons (kEqS (isX rfl) (isX rfl) (decide_eq_true rfl)) ?_
  refine hcons (kMax (isX rfl) (isZ (m := 0) rfl) (denX rfl) rfl) ?_
  refine hcons (kNeg (isX rfl) (denX rfl) (by omega) (fI64 (by omega) (by omega))) ?_
  refine hcons (kAndG 3 8 rfl (by decide) (isX rfl) (isZ (m := 7) rfl) (denX rfl) (fI64 (by omega) (by omega)) rfl rfl (fI64 (by omega) (by omega))) ?_
  refine hcons (kMax (isZ (m := 0) rfl) (isX rfl) (denX rfl) rfl) ?_
  refine hcons (kRem (isX rfl) (isZ (m := 8) rfl) (denX rfl) (by omega) (by omega) rfl) ?_
  refine hcons (kSub (isZ (m := 8) rfl) (isX rfl) (denX rfl) (by omega) (fI64 (by omega) (by omega))) ?_
  refine hcons (kRem (isX rfl) (isZ (m := 8) rfl) (denX rfl) (by omega) (by omega) rfl) ?_
  refine hcons (kEqI (isX rfl) (isX rfl) (decide_eq_true (by omega))) ?_
  exact hnil
theorem path34 (rt : Int) (ri : Int) (c : List UInt8) (rp : Int) (s : List UInt8) (n : Int) (b0 : -9223372036854775808 ≤ rt) (b1 : rt ≤ 9223372036854775807) (b2 : -9223372036854775808 ≤ ri) (b3 : ri ≤ 9223372036854775807) (b4 : c.length ≤ 9223372036854775807) (b5 : -9223372036854775808 ≤ rp) (b6 : rp ≤ 9223372036854775807) (b7 : s.length ≤ 9223372036854775807) (b8 : -9223372036854775808 ≤ n) (b9 : n ≤ 9223372036854775807) (h0 : ¬ (3000 < (s.length : Int))) (h1 : ¬ (70000 < (c.length : Int))) (h2 : ¬ ((s.length : Int) = 0)) (h3 : bt s 0 = 1) (h4 : ¬ ((s.length : Int) < 8)) (h5 : ¬ ((s.length : Int) < (bt s 4) * 256 + (bt s 5) + (bt s 6) + 8)) (h6 : ¬ (bt s 1 = 0)) (h9 : 1 ≤ rt) (h10 : rt ≤ 255) (h11 : 0 ≤ ri) (h12 : ri ≤ 65535) (h13 : ¬ ((c.length : Int) ≤ 65535)) (w : World) (hl : laidE w) : Calls Tryd.prog 5 #[.agg #[.int .i64 rt, .int .i64 ri, St' c, .int .i64 rp], St' s, .int .i64 n] w fun e w' => e = .returned (.bool true) ∧ Go.AX.Below w.heap.size w w' := by
  obtain ⟨fi, hfi, hb⟩ : ∃ fi, tabk.fn.get 5 = some fi ∧ fi.body.isSome = true := ⟨_, rfl, by kernel_rfl⟩
  exact runP (tb := tab34) ((tabkOk (nuL (nu34 rt ri c rp s n)) (one34 rt ri c rp s n)).hyps (hyOk34 rt ri c rp s n b0 b1 b2 b3 b4 b5 b6 b7 b8 b9 h0 h1 h2 h3 h4 h5 h6 h9 h10 h11 h12 h13)) rfl hfi hb (fun e => run34 e ) (args := [.agg #[.int .i64 rt, .int .i64 ri, St' c, .int .i64 rp], St' s, .int .i64 n]) (by simp only [RelL, Rel]; exact ⟨_, _, rfl, ⟨_, rfl, ⟨_, _, rfl, rfl, ⟨_, _, rfl, rfl, ⟨_, _, rfl, rfl, ⟨_, _, rfl, rfl, rfl⟩⟩⟩⟩⟩, ⟨_, _, rfl, rfl, ⟨_, _, rfl, rfl, rfl⟩⟩⟩) w hl
def hy35 : List (HK × AV) := [(.len (.x 4), .x 6),
  (.bin .gtr (.x 6) (.i .i64 (.ofNat 3000)), .b false),
  (.len (.x 2), .x 7),
  (.bin .gtr (.x 7) (.i .i64 (.ofNat 70000)), .b false),
  (.bin .neq (.x 4) (.s 0 0), .b true),
  (.idx (.x 4) (.i .i64 (.ofNat 0)), .x 8),
  (.bin .neq (.x 8) (.i .u8 (.ofNat 1)), .b false),
  (.bin .lss (.x 6) (.i .i64 (.ofNat 8)), .b false),
  (.idx (.x 4) (.i .i64 (.ofNat 4)), .x 9),
  (.conv 3 (.x 9), .x 10),
  (.bin .shl (.x 10) (.i .u64 (.ofNat 8)), .x 11),
  (.bin .add (.i .i64 (.ofNat 8)) (.x 11), .x 12),
  (.idx (.x 4) (.i .i64 (.ofNat 5)), .x 13),
  (.conv 3 (.x 13), .x 14),
  (.bin .add (.x 12) (.x 14), .x 15),
  (.idx (.x 4) (.i .i64 (.ofNat 6)), .x 16),
  (.conv 3 (.x 16), .x 17),
  (.bin .add (.x 15) (.x 17), .x 18),
  (.bin .lss (.x 6) (.x 18), .b false),
  (.idx (.x 4) (.i .i64 (.ofNat 1)), .x 19),
  (.bin .eql (.x 19) (.i .u8 (.ofNat 0)), .b true),
  (.bin .gtr (.x 6) (.i .i64 (.ofNat 0)), .b true),
  (.bin .mul (.x 10) (.i .i64 (.ofNat 256)), .x 20),
  (.bin .add (.x 20) (.x 14), .x 21),
  (.bin .add (.i .i64 (.ofNat 8)) (.x 21), .x 22),
  (.bin .add (.x 22) (.x 17), .x 23),
  (.bin .lss (.x 6) (.x 23), .b false),
  (.bin .geq (.x 0) (.i .i64 (.ofNat 1)), .b true),
  (.bin .leq (.x 0) (.i .i64 (.ofNat 255)), .b true),
  (.bin .geq (.x 1) (.i .i64 (.ofNat 0)), .b true),
  (.bin .leq (.x 1) (.i .i64 (.ofNat 65535)), .b true),
  (.bin .leq (.x 7) (.i .i64 (.ofNat 65535)), .b false),
  (.bin .eql (.x 4) (.x 4), .b true),
  (.mm true (.x 5) (.i .i64 (.ofNat 0)), .x 24),
  (.un .neg (.x 24), .x 25),
  (.bin .and (.x 25) (.i .i64 (.ofNat 7)), .x 26),
  (.mm true (.i .i64 (.ofNat 0)) (.x 5), .x 27),
  (.bin .rem (.x 27) (.i .i64 (.ofNat 8)), .x 28),
  (.bin .sub (.i .i64 (.ofNat 8)) (.x 28), .x 29),
  (.bin .rem (.x 29) (.i .i64 (.ofNat 8)), .x 30),
  (.bin .eql (.x 26) (.x 30), .b true)]
noncomputable def tab35 : Tab := { tabk with hyp := hy35 }
theorem run35 (e : Nat) : okB (call tab35 9000 5 [.ag [.x 0, .x 1, .x 2, .x 3], .x 4, .x 5] ⟨H0 e , 7, 0, 0⟩) = true := by kernel_rfl
def nu35 (rt : Int) (ri : Int) (c : List UInt8) (rp : Int) (s : List UInt8) (n : Int) : List Value := [.int .i64 (rt),
  .int .i64 (ri),
  St' c,
  .int .i64 (rp),
  St' s,
  .int .i64 (n),
  .int .i64 ((s.length : Int)),
  .int .i64 ((c.length : Int)),
  .int .u8 (bt s 0),
  .int .u8 (bt s 4),
  .int .i64 ((bt s 4)),
  .int .i64 ((bt s 4) * 256),
  .int .i64 ((bt s 4) * 256 + 8),
  .int .u8 (bt s 5),
  .int .i64 ((bt s 5)),
  .int .i64 ((bt s 4) * 256 + (bt s 5) + 8),
  .int .u8 (bt s 6),
  .int .i64 ((bt s 6)),
  .int .i64 ((bt s 4) * 256 + (bt s 5) + (bt s 6) + 8),
  .int .u8 (bt s 1),
  .int .i64 ((bt s 4) * 256),
  .int .i64 ((bt s 4) * 256 + (bt s 5)),
  .int .i64 ((bt s 4) * 256 + (bt s 5) + 8),
  .int .i64 ((bt s 4) * 256 + (bt s 5) + (bt s 6) + 8),
  .int .i64 (max n 0),
  .int .i64 (-((max n 0))),
  .int .i64 ((-((max n 0))) % 8),
  .int .i64 (max 0 n),
  .int .i64 ((max 0 n) % 8),
  .int .i64 (8 - ((max 0 n) % 8)),
  .int .i64 ((8 - ((max 0 n) % 8)) % 8)]
theorem one35 (rt : Int) (ri : Int) (c : List UInt8) (rp : Int) (s : List UInt8) (n : Int) : ∀ j, (nuL (nu35 rt ri c rp s n) j).oneCell' = true := nuL_one (l := nu35 rt ri c rp s n) rfl
set_option maxHeartbeats 2000000 in
theorem hyOk35 (rt : Int) (ri : Int) (c : List UInt8) (rp : Int) (s : List UInt8) (n : Int) (b0 : -9223372036854775808 ≤ rt) (b1 : rt ≤ 9223372036854775807) (b2 : -9223372036854775808 ≤ ri) (b3 : ri ≤ 9223372036854775807) (b4 : c.length ≤ 9223372036854775807) (b5 : -9223372036854775808 ≤ rp) (b6 : rp ≤ 9223372036854775807) (b7 : s.length ≤ 9223372036854775807) (b8 : -9223372036854775808 ≤ n) (b9 : n ≤ 9223372036854775807) (h0 : ¬ (3000 < (s.length : Int))) (h1 : ¬ (70000 < (c.length : Int))) (h2 : ¬ ((s.length : Int) = 0)) (h3 : bt s 0 = 1) (h4 : ¬ ((s.length : Int) < 8)) (h5 : ¬ ((s.length : Int) < (bt s 4) * 256 + (bt s 5) + (bt s 6) + 8)) (h6 : bt s 1 = 0) (h9 : 1 ≤ rt) (h10 : rt ≤ 255) (h11 : 0 ≤ ri) (h12 : ri ≤ 65535) (h13 : ¬ ((c.length : Int) ≤ 65535)) : ∀ k r, (k, r) ∈ hy35 → HOk (cx (nuL (nu35 rt ri c rp s n)) (one35 rt ri c rp s n) 1 laidE laidE_stab) k r := by
  have := bt_lo s 0; have := bt_hi s 0
  have := bt_lo s 4; have := bt_hi s 4
  have := bt_lo s 5; have := bt_hi s 5
  have := bt_lo s 6; have := bt_hi s 6
  have := bt_lo s 1; have := bt_hi s 1
  unfold hy35
  refine hcons (kLenE (isX rfl) (denX rfl) (by first | omega | (simp only [List.length_append, List.length_cons, List.length_nil, List.length_take, List.length_drop, List.length_replicate, Int.natCast_add] at *; omega))) ?_
  refine hcons (kGt (isX rfl) (isZ (m := 3000) rfl) (decide_eq_false (by omega))) ?_
  refine hcons (kLenE (isX rfl) (denX rfl) (by first | omega | (simp only [List.length_append, List.length_cons, List.length_nil, List.length_take, List.length_drop, List.length_replicate, Int.natCast_add] at *; omega))) ?_
  refine hcons (kGt (isX rfl) (isZ (m := 70000) rfl) (decide_eq_false (by omega))) ?_
  refine hcons (kNeS (isX rfl) (isSx (l := ([] : List UInt8)) 0 0 rfl) (bnT (by first | exact nilT (by first | omega | (simp only [List.length_append, List.length_cons, List.length_nil, List.length_take, List.length_drop, List.length_replicate, Int.natCast_add] at *; omega)) | exact nilF (by first | omega | (simp only [List.length_append, List.length_cons, List.length_nil, List.length_take, List.length_drop, List.length_replicate, Int.natCast_add] at *; omega)) | exact nilT' (by first | omega | (simp only [List.length_append, List.length_cons, List.length_nil, List.length_take, List.length_drop, List.length_replicate, Int.natCast_add] at *; omega)) | exact nilF' (by first | omega | (simp only [List.length_append, List.length_cons, List.length_nil, List.length_take, List.length_drop, List.length_replicate, Int.natCast_add] at *; omega))))) ?_
  refine hcons (kIdxE (i := 0) (isX rfl) (isZ (m := 0) rfl) (denX rfl) rfl (by first | omega | (simp only [List.length_append, List.length_cons, List.length_nil, List.length_take, List.length_drop, List.length_replicate, Int.natCast_add] at *; omega)) rfl) ?_
  refine hcons (kNeI (isX rfl) (isZ (m := 1) rfl) (neF (by omega))) ?_
  refine hcons (kLt (isX rfl) (isZ (m := 8) rfl) (decide_eq_false (by omega))) ?_
  refine hcons (kIdxE (i := 4) (isX rfl) (isZ (m := 4) rfl) (denX rfl) rfl (by first | omega | (simp only [List.length_append, List.length_cons, List.length_nil, List.length_take, List.length_drop, List.length_replicate, Int.natCast_add] at *; omega)) rfl) ?_
  refine hcons (kConvF (isX rfl) tu3 (denX rfl) (fI64 (by omega) (by omega))) ?_
  refine hcons (kShlM 8 256 rfl (isX rfl) (isZ (m := 8) rfl) (denX rfl) rfl (by decide) (by omega) (fI64 (by omega) (by omega))) ?_
  refine hcons (kAdd (isZ (m := 8) rfl) (isX rfl) (denX rfl) (by omega) (fI64 (by omega) (by omega))) ?_
  refine hcons (kIdxE (i := 5) (isX rfl) (isZ (m := 5) rfl) (denX rfl) rfl (by first | omega | (simp only [List.length_append, List.length_cons, List.length_nil, List.length_take, List.length_drop, List.length_replicate, Int.natCast_add] at *; omega)) rfl) ?_
  refine hcons (kConvF (isX rfl) tu3 (denX rfl) (fI64 (by omega) (by omega))) ?_
  refine hcons (kAdd (isX rfl) (isX rfl) (denX rfl) (by omega) (fI64 (by omega) (by omega))) ?_
  refine hcons (kIdxE (i := 6) (isX rfl) (isZ (m := 6) rfl) (denX rfl) rfl (by first | omega | (simp only [List.length_append, List.length_cons, List.length_nil, List.length_take, List.length_drop, List.length_replicate, Int.natCast_add] at *; omega)) rfl) ?_
  refine hcons (kConvF (isX rfl) tu3 (denX rfl) (fI64 (by omega) (by omega))) ?_
  refine hcons (kAdd (isX rfl) (isX rfl) (denX rfl) (by omega) (fI64 (by omega) (by omega))) ?_
  refine hcons (kLt (isX rfl) (isX rfl) (decide_eq_false (by omega))) ?_
  refine hcons (kIdxE (i := 1) (isX rfl) (isZ (m := 1) rfl) (denX rfl) rfl (by first | omega | (simp only [List.length_append, List.length_cons, List.length_nil, List.length_take, List.length_drop, List.length_replicate, Int.natCast_add] at *; omega)) rfl) ?_
  refine hcons (kEqI (isX rfl) (isZ (m := 0) rfl) (decide_eq_true (by omega))) ?_
  refine hcons (kGt (isX rfl) (isZ (m := 0) rfl) (decide_eq_true (by omega))) ?_
  refine hcons (kMul (isX rfl) (isZ (m := 256) rfl) (denX rfl) (by omega) (fI64 (by omega) (by omega))) ?_
  refine hcons (kAdd (isX rfl) (isX rfl) (denX rfl) (by omega) (fI64 (by omega) (by omega))) ?_
  refine hcons (kAdd (isZ (m := 8) rfl) (isX rfl) (denX rfl) (by omega) (fI64 (by omega) (by omega))) ?_
  refine hcons (kAdd (isX rfl) (isX rfl) (denX rfl) (by omega) (fI64 (by omega) (by omega))) ?_
  refine hcons (kLt (isX rfl) (isX rfl) (decide_eq_false (by omega))) ?_
  refine hcons (kGe (isX rfl) (isZ (m := 1) rfl) (decide_eq_true (by omega))) ?_
  refine hcons (kLe (isX rfl) (isZ (m := 255) rfl) (decide_eq_true (by omega))) ?_
  refine hcons (kGe (isX rfl) (isZ (m := 0) rfl) (decide_eq_true (by omega))) ?_
  refine hcons (kLe (isX rfl) (isZ (m := 65535) rfl) (decide_eq_true (by omega))) ?_
  refine hcons (kLe (isX rfl) (isZ (m := 65535) rfl) (decide_eq_false (by omega))) ?_
  refine hcons (kEqS (isX rfl) (isX rfl) (decide_eq_true rfl)) ?_
  refine hcons (kMax (isX rfl) (isZ (m := 0) rfl) (denX rfl) rfl) ?_
  refine hcons (kNeg (isX rfl) (denX rfl) (by omega) (fI64 (by omega) (by omega))) ?_
  refine hcons (kAndG 3 8 rfl (by decide) (isX rfl) (isZ (m := 7) rfl) (denX rfl) (fI64 (by omega) (by omega)) rfl rfl (fI64 (by omega) (by omega))) ?_
  refine hcons (kMax (isZ (m := 0) rfl) (isX rfl) (denX rfl) rfl) ?_
  refine hcons (kRem (isX rfl) (isZ (m := 8) rfl) (denX rfl) (by omega) (by omega) rfl) ?_
  refine hcons (kSub (isZ (m := 8) rfl) (isX rfl) (denX rfl) (by omega) (fI64 (by omega) (by omega))) ?_
  refine hcons (kRem (isX rfl) (isZ (m := 8) rfl) (denX rfl) (by omega) (by omega) rfl) ?_
  refine hcons (kEqI (isX rfl) (isX rfl) (decide_eq_true (by omega))) ?_
  exact hnil
theorem path35 (rt : Int) (ri : Int) (c : List UInt8) (rp : Int) (s : List UInt8) (n : Int) (b0 : -9223372036854775808 ≤ rt) (b1 : rt ≤ 9223372036854775807) (b2 : -9223372036854775808 ≤ ri) (b3 : ri ≤ 9223372036854775807) (b4 : c.length ≤ 9223372036854775807) (b5 : -9223372036854775808 ≤ rp) (b6 : rp ≤ 9223372036854775807) (b7 : s.length ≤ 9223372036854775807) (b8 : -9223372036854775808 ≤ n) (b9 : n ≤ 9223372036854775807) (h0 : ¬ (3000 < (s.length : Int))) (h1 : ¬ (70000 < (c.length : Int))) (h2 : ¬ ((s.length : Int) = 0)) (h3 : bt s 0 = 1) (h4 : ¬ ((s.length : Int) < 8)) (h5 : ¬ ((s.length : Int) < (bt s 4) * 256 + (bt s 5) + (bt s 6) + 8)) (h6 : bt s 1 = 0) (h9 : 1 ≤ rt) (h10 : rt ≤ 255) (h11 : 0 ≤ ri) (h12 : ri ≤ 65535) (h13 : ¬ ((c.length : Int) ≤ 65535)) (w : World) (hl : laidE w) : Calls Tryd.prog 5 #[.agg #[.int .i64 rt, .int .i64 ri, St' c, .int .i64 rp], St' s, .int .i64 n] w fun e w' => e = .returned (.bool true) ∧ Go.AX.Below w.heap.size w w' := by
  obtain ⟨fi, hfi, hb⟩ : ∃ fi, tabk.fn.get 5 = some fi ∧ fi.body.isSome = true := ⟨_, rfl, by kernel_rfl⟩
  exact runP (tb := tab35) ((tabkOk (nuL (nu35 rt ri c rp s n)) (one35 rt ri c rp s n)).hyps (hyOk35 rt ri c rp s n b0 b1 b2 b3 b4 b5 b6 b7 b8 b9 h0 h1 h2 h3 h4 h5 h6 h9 h10 h11 h12 h13)) rfl hfi hb (fun e => run35 e ) (args := [.agg #[.int .i64 rt, .int .i64 ri, St' c, .int .i64 rp], St' s, .int .i64 n]) (by simp only [RelL, Rel]; exact ⟨_, _, rfl, ⟨_, rfl, ⟨_, _, rfl, rfl, ⟨_, _, rfl, rfl, ⟨_, _, rfl, rfl, ⟨_, _, rfl, rfl, rfl⟩⟩⟩⟩⟩, ⟨_, _, rfl, rfl, ⟨_, _, rfl, rfl, rfl⟩⟩⟩) w hl
end Go.Proofs.YtejdkoheodambaaDoor.recordTells
