/- A part of the proof: an interpreter of the model's own code on partly known states, and that what it answers is what the program answers. No condition of its own. -/
import Derived.Test.YtejdkoheodambaaDoorB3RecordTellsO
set_option maxRecDepth 100000
set_option linter.unusedVariables false
set_option linter.unusedSimpArgs false
namespace Go.Proofs.YtejdkoheodambaaDoor.recordTells
open Go Go.AX Go.Proofs Go.Proofs.YtejdkoheodambaaDoor
def hy12 : List (HK × AV) := [(.len (.x 4), .x 6),
  (.bin .gtr (.x 6) (.i .i64 (.ofNat 3000)), .b false),
  (.len (.x 2), .x 7),
  (.bin .gtr (.x 7) (.i .i64 (.ofNat 70000)), .b false),
  (.bin .neq (.x 4) (.s 0 0), .b true),
  (.idx (.x 4) (.i .i64 (.ofNat 0)), .x 8),
  (.bin .neq (.x 8) (.i .u8 (.ofNat 1)), .b false),
  (.bin .lss (.x 6) (.i .i64 (.ofNat 8)), .b false),
  (.idx (.x 4) (.i .i64 (.ofNat 4)), .x 9),
  (.conv 3 (.x 9), .x 10),
  (.bin .shl (.x 10) (.i .u64 (.ofNat 8)), .x 11),
  (.bin .add (.i .i64 (.ofNat 8)) (.x 11), .x 12),
  (.idx (.x 4) (.i .i64 (.ofNat 5)), .x 13),
  (.conv 3 (.x 13), .x 14),
  (.bin .add (.x 12) (.x 14), .x 15),
  (.idx (.x 4) (.i .i64 (.ofNat 6)), .x 16),
  (.conv 3 (.x 16), .x 17),
  (.bin .add (.x 15) (.x 17), .x 18),
  (.bin .lss (.x 6) (.x 18), .b true),
  (.bin .gtr (.x 6) (.i .i64 (.ofNat 0)), .b true),
  (.bin .mul (.x 10) (.i .i64 (.ofNat 256)), .x 19),
  (.bin .add (.x 19) (.x 14), .x 20),
  (.bin .add (.i .i64 (.ofNat 8)) (.x 20), .x 21),
  (.bin .add (.x 21) (.x 17), .x 22),
  (.bin .lss (.x 6) (.x 22), .b true),
  (.bin .geq (.x 0) (.i .i64 (.ofNat 1)), .b false),
  (.bin .eql (.x 4) (.x 4), .b true),
  (.mm true (.x 5) (.i .i64 (.ofNat 0)), .x 23),
  (.un .neg (.x 23), .x 24),
  (.bin .and (.x 24) (.i .i64 (.ofNat 7)), .x 25),
  (.mm true (.i .i64 (.ofNat 0)) (.x 5), .x 26),
  (.bin .rem (.x 26) (.i .i64 (.ofNat 8)), .x 27),
  (.bin .sub (.i .i64 (.ofNat 8)) (.x 27), .x 28),
  (.bin .rem (.x 28) (.i .i64 (.ofNat 8)), .x 29),
  (.bin .eql (.x 25) (.x 29), .b true)]
noncomputable def tab12 : Tab := { tabk with hyp := hy12 }
theorem run12 (e : Nat) : okB (call tab12 9000 5 [.ag [.x 0, .x 1, .x 2, .x 3], .x 4, .x 5] ⟨H0 e , 7, 0, 0⟩) = true := by kernel_rfl
def nu12 (rt : Int) (ri : Int) (c : List UInt8) (rp : Int) (s : List UInt8) (n : Int) : List Value := [.int .i64 (rt),
  .int .i64 (ri),
  St' c,
  .int .i64 (rp),
  St' s,
  .int .i64 (n),
  .int .i64 ((s.length : Int)),
  .int .i64 ((c.length : Int)),
  .int .u8 (bt s 0),
  .int .u8 (bt s 4),
  .int .i64 ((bt s 4)),
  .int .i64 ((bt s 4) * 256),
  .int .i64 ((bt s 4) * 256 + 8),
  .int .u8 (bt s 5),
  .int .i64 ((bt s 5)),
  .int .i64 ((bt s 4) * 256 + (bt s 5) + 8),
  .int .u8 (bt s 6),
  .int .i64 ((bt s 6)),
  .int .i64 ((bt s 4) * 256 + (bt s 5) + (bt s 6) + 8),
  .int .i64 ((bt s 4) * 256),
  .int .i64 ((bt s 4) * 256 + (bt s 5)),
  .int .i64 ((bt s 4) * 256 + (bt s 5) + 8),
  .int .i64 ((bt s 4) * 256 + (bt s 5) + (bt s 6) + 8),
  .int .i64 (max n 0),
  .int .i64 (-((max n 0))),
  .int .i64 ((-((max n 0))) % 8),
  .int .i64 (max 0 n),
  .int .i64 ((max 0 n) % 8),
  .int .i64 (8 - ((max 0 n) % 8)),
  .int .i64 ((8 - ((max 0 n) % 8)) % 8)]
theorem one12 (rt : Int) (ri : Int) (c : List UInt8) (rp : Int) (s : List UInt8) (n : Int) : ∀ j, (nuL (nu12 rt ri c rp s n) j).oneCell' = true := nuL_one (l := nu12 rt ri c rp s n) rfl
set_option maxHeartbeats 2000000 in
theorem hyOk12 (rt : Int) (ri : Int) (c : List UInt8) (rp : Int) (s : List UInt8) (n : Int) (b0 : -9223372036854775808 ≤ rt) (b1 : rt ≤ 9223372036854775807) (b2 : -9223372036854775808 ≤ ri) (b3 : ri ≤ 9223372036854775807) (b4 : c.length ≤ 9223372036854775807) (b5 : -9223372036854775808 ≤ rp) (b6 : rp ≤ 9223372036854775807) (b7 : s.length ≤ 9223372036854775807) (b8 : -9223372036854775808 ≤ n) (b9 : n ≤ 9223372036854775807) (h0 : ¬ (3000 < (s.length : Int))) (h1 : ¬ (70000 < (c.length : Int))) (h2 : ¬ ((s.length : Int) = 0)) (h3 : bt s 0 = 1) (h4 : ¬ ((s.length : Int) < 8)) (h5 : (s.length : Int) < (bt s 4) * 256 + (bt s 5) + (bt s 6) + 8) (h8 : ¬ (1 ≤ rt)) : ∀ k r, (k, r) ∈ hy12 → HOk (cx (nuL (nu12 rt ri c rp s n)) (one12 rt ri c rp s n) 1 laidE laidE_stab) k r := by
  have := bt_lo s 0; have := bt_hi s 0
  have := bt_lo s 4; have := bt_hi s 4
  have := bt_lo s 5; have := bt_hi s 5
  have := bt_lo s 6; have := bt_hi s 6
  unfold hy12
  refine hcons (kLenE (isX rfl) (denX rfl) (by first | omega | (simp only [List.length_append, List.length_cons, List.length_nil, List.length_take, List.length_drop, List.length_replicate, Int.natCast_add] at *; omega))) ?_
  refine hcons (kGt (isX rfl) (isZ (m := 3000) rfl) (decide_eq_false (by omega))) ?_
  refine hcons (kLenE (isX rfl) (denX rfl) (by first | omega | (simp only [List.length_append, List.length_cons, List.length_nil, List.length_take, List.length_drop, List.length_replicate, Int.natCast_add] at *; omega))) ?_
  refine hcons (kGt (isX rfl) (isZ (m := 70000) rfl) (decide_eq_false (by omega))) ?_
  refine hcons (kNeS (isX rfl) (isSx (l := ([] : List UInt8)) 0 0 rfl) (bnT (by first | exact nilT (by first | omega | (simp only [List.length_append, List.length_cons, List.length_nil, List.length_take, List.length_drop, List.length_replicate, Int.natCast_add] at *; omega)) | exact nilF (by first | omega | (simp only [List.length_append, List.length_cons, List.length_nil, List.length_take, List.length_drop, List.length_replicate, Int.natCast_add] at *; omega)) | exact nilT' (by first | omega | (simp only [List.length_append, List.length_cons, List.length_nil, List.length_take, List.length_drop, List.length_replicate, Int.natCast_add] at *; omega)) | exact nilF' (by first | omega | (simp only [List.length_append, List.length_cons, List.length_nil, List.length_take, List.length_drop, List.length_replicate, Int.natCast_add] at *; omega))))) ?_
  refine hcons (kIdxE (i := 0) (isX rfl) (isZ (m := 0) rfl) (denX rfl) rfl (by first | omega | (simp only [List.length_append, List.length_cons, List.length_nil, List.length_take, List.length_drop, List.length_replicate, Int.natCast_add] at *; omega)) rfl) ?_
  refine hcons (kNeI (isX rfl) (isZ (m := 1) rfl) (neF (by omega))) ?_
  refine hcons (kLt (isX rfl) (isZ (m := 8) rfl) (decide_eq_false (by omega))) ?_
  refine hcons (kIdxE (i := 4) (isX rfl) (isZ (m := 4) rfl) (denX rfl) rfl (by first | omega | (simp only [List.length_append, List.length_cons, List.length_nil, List.length_take, List.length_drop, List.length_replicate, Int.natCast_add] at *; omega)) rfl) ?_
  refine hcons (kConvF (isX rfl) tu3 (denX rfl) (fI64 (by omega) (by omega))) ?_
  refine hcons (kShlM 8 256 rfl (isX rfl) (isZ (m := 8) rfl) (denX rfl) rfl (by decide) (by omega) (fI64 (by omega) (by omega))) ?_
  refine hcons (kAdd (isZ (m := 8) rfl) (isX rfl) (denX rfl) (by omega) (fI64 (by omega) (by omega))) ?_
  refine hcons (kIdxE (i := 5) (isX rfl) (isZ (m := 5) rfl) (denX rfl) rfl (by first | omega | (simp only [List.length_append, List.length_cons, List.length_nil, List.length_take, List.length_drop, List.length_replicate, Int.natCast_add] at *; omega)) rfl) ?_
  refine hcons (kConvF (isX rfl) tu3 (denX rfl) (fI64 (by omega) (by omega))) ?_
  refine hcons (kAdd (isX rfl) (isX rfl) (denX rfl) (by omega) (fI64 (by omega) (by omega))) ?_
  refine hcons (kIdxE (i := 6) (isX rfl) (isZ (m := 6) rfl) (denX rfl) rfl (by first | omega | (simp only [List.length_append, List.length_cons, List.length_nil, List.length_take, List.length_drop, List.length_replicate, Int.natCast_add] at *; omega)) rfl) ?_
  refine hcons (kConvF (isX rfl) tu3 (denX rfl) (fI64 (by omega) (by omega))) ?_
  refine hcons (kAdd (isX rfl) (isX rfl) (denX rfl) (by omega) (fI64 (by omega) (by omega))) ?_
  refine hcons (kLt (isX rfl) (isX rfl) (decide_eq_true (by omega))) ?_
  refine hcons (kGt (isX rfl) (isZ (m := 0) rfl) (decide_eq_true (by omega))) ?_
  refine hcons (kMul (isX rfl) (isZ (m := 256) rfl) (denX rfl) (by omega) (fI64 (by omega) (by omega))) ?_
  refine hcons (kAdd (isX rfl) (isX rfl) (denX rfl) (by omega) (fI64 (by omega) (by omega))) ?_
  refine hcons (kAdd (isZ (m := 8) rfl) (isX rfl) (denX rfl) (by omega) (fI64 (by omega) (by omega))) ?_
  refine hcons (kAdd (isX rfl) (isX rfl) (denX rfl) (by omega) (fI64 (by omega) (by omega))) ?_
  refine hcons (kLt (isX rfl) (isX rfl) (decide_eq_true (by omega))) ?_
  refine hcons (kGe (isX rfl) (isZ (m := 1) rfl) (decide_eq_false (by omega))) ?_
  refine hcons (kEqS (isX rfl) (isX rfl) (decide_eq_true rfl)) ?_
  refine hcons (kMax (isX rfl) (isZ (m := 0) rfl) (denX rfl) rfl) ?_
  refine hcons (kNeg (isX rfl) (denX rfl) (by omega) (fI64 (by omega) (by omega))) ?_
  refine hcons (kAndG 3 8 rfl (by decide) (isX rfl) (isZ (m := 7) rfl) (denX rfl) (fI64 (by omega) (by omega)) rfl rfl (fI64 (by omega) (by omega))) ?_
  refine hcons (kMax (isZ (m := 0) rfl) (isX rfl) (denX rfl) rfl) ?_
  refine hcons (kRem (isX rfl) (isZ (m := 8) rfl) (denX rfl) (by omega) (by omega) rfl) ?_
  refine hcons (kSub (isZ (m := 8) rfl) (isX rfl) (denX rfl) (by omega) (fI64 (by omega) (by omega))) ?_
  refine hcons (kRem (isX rfl) (isZ (m := 8) rfl) (denX rfl) (by omega) (by omega) rfl) ?_
  refine hcons (kEqI (isX rfl) (isX rfl) (decide_eq_true (by omega))) ?_
  exact hnil
theorem path12 (rt : Int) (ri : Int) (c : List UInt8) (rp : Int) (s : List UInt8) (n : Int) (b0 : -9223372036854775808 ≤ rt) (b1 : rt ≤ 9223372036854775807) (b2 : -9223372036854775808 ≤ ri) (b3 : ri ≤ 9223372036854775807) (b4 : c.length ≤ 9223372036854775807) (b5 : -9223372036854775808 ≤ rp) (b6 : rp ≤ 9223372036854775807) (b7 : s.length ≤ 9223372036854775807) (b8 : -9223372036854775808 ≤ n) (b9 : n ≤ 9223372036854775807) (h0 : ¬ (3000 < (s.length : Int))) (h1 : ¬ (70000 < (c.length : Int))) (h2 : ¬ ((s.length : Int) = 0)) (h3 : bt s 0 = 1) (h4 : ¬ ((s.length : Int) < 8)) (h5 : (s.length : Int) < (bt s 4) * 256 + (bt s 5) + (bt s 6) + 8) (h8 : ¬ (1 ≤ rt)) (w : World) (hl : laidE w) : Calls Tryd.prog 5 #[.agg #[.int .i64 rt, .int .i64 ri, St' c, .int .i64 rp], St' s, .int .i64 n] w fun e w' => e = .returned (.bool true) ∧ Go.AX.Below w.heap.size w w' := by
  obtain ⟨fi, hfi, hb⟩ : ∃ fi, tabk.fn.get 5 = some fi ∧ fi.body.isSome = true := ⟨_, rfl, by kernel_rfl⟩
  exact runP (tb := tab12) ((tabkOk (nuL (nu12 rt ri c rp s n)) (one12 rt ri c rp s n)).hyps (hyOk12 rt ri c rp s n b0 b1 b2 b3 b4 b5 b6 b7 b8 b9 h0 h1 h2 h3 h4 h5 h8)) rfl hfi hb (fun e => run12 e ) (args := [.agg #[.int .i64 rt, .int .i64 ri, St' c, .int .i64 rp], St' s, .int .i64 n]) (by simp only [RelL, Rel]; exact ⟨_, _, rfl, ⟨_, rfl, ⟨_, _, rfl, rfl, ⟨_, _, rfl, rfl, ⟨_, _, rfl, rfl, ⟨_, _, rfl, rfl, rfl⟩⟩⟩⟩⟩, ⟨_, _, rfl, rfl, ⟨_, _, rfl, rfl, rfl⟩⟩⟩) w hl
def hy13 : List (HK × AV) := [(.len (.x 4), .x 6),
  (.bin .gtr (.x 6) (.i .i64 (.ofNat 3000)), .b false),
  (.len (.x 2), .x 7),
  (.bin .gtr (.x 7) (.i .i64 (.ofNat 70000)), .b false),
  (.bin .neq (.x 4) (.s 0 0), .b false),
  (.bin .lss (.x 6) (.i .i64 (.ofNat 8)), .b true),
  (.bin .gtr (.x 6) (.i .i64 (.ofNat 0)), .b false),
  (.bin .geq (.x 0) (.i .i64 (.ofNat 1)), .b true),
  (.bin .leq (.x 0) (.i .i64 (.ofNat 255)), .b false),
  (.bin .eql (.x 4) (.x 4), .b true),
  (.mm true (.x 5) (.i .i64 (.ofNat 0)), .x 8),
  (.un .neg (.x 8), .x 9),
  (.bin .and (.x 9) (.i .i64 (.ofNat 7)), .x 10),
  (.mm true (.i .i64 (.ofNat 0)) (.x 5), .x 11),
  (.bin .rem (.x 11) (.i .i64 (.ofNat 8)), .x 12),
  (.bin .sub (.i .i64 (.ofNat 8)) (.x 12), .x 13),
  (.bin .rem (.x 13) (.i .i64 (.ofNat 8)), .x 14),
  (.bin .eql (.x 10) (.x 14), .b true)]
noncomputable def tab13 : Tab := { tabk with hyp := hy13 }
theorem run13 (e : Nat) : okB (call tab13 9000 5 [.ag [.x 0, .x 1, .x 2, .x 3], .x 4, .x 5] ⟨H0 e , 7, 0, 0⟩) = true := by kernel_rfl
def nu13 (rt : Int) (ri : Int) (c : List UInt8) (rp : Int) (s : List UInt8) (n : Int) : List Value := [.int .i64 (rt),
  .int .i64 (ri),
  St' c,
  .int .i64 (rp),
  St' s,
  .int .i64 (n),
  .int .i64 ((s.length : Int)),
  .int .i64 ((c.length : Int)),
  .int .i64 (max n 0),
  .int .i64 (-((max n 0))),
  .int .i64 ((-((max n 0))) % 8),
  .int .i64 (max 0 n),
  .int .i64 ((max 0 n) % 8),
  .int .i64 (8 - ((max 0 n) % 8)),
  .int .i64 ((8 - ((max 0 n) % 8)) % 8)]
theorem one13 (rt : Int) (ri : Int) (c : List UInt8) (rp : Int) (s : List UInt8) (n : Int) : ∀ j, (nuL (nu13 rt ri c rp s n) j).oneCell' = true := nuL_one (l := nu13 rt ri c rp s n) rfl
set_option maxHeartbeats 2000000 in
theorem hyOk13 (rt : Int) (ri : Int) (c : List UInt8) (rp : Int) (s : List UInt8) (n : Int) (b0 : -9223372036854775808 ≤ rt) (b1 : rt ≤ 9223372036854775807) (b2 : -9223372036854775808 ≤ ri) (b3 : ri ≤ 9223372036854775807) (b4 : c.length ≤ 9223372036854775807) (b5 : -9223372036854775808 ≤ rp) (b6 : rp ≤ 9223372036854775807) (b7 : s.length ≤ 9223372036854775807) (b8 : -9223372036854775808 ≤ n) (b9 : n ≤ 9223372036854775807) (h0 : ¬ (3000 < (s.length : Int))) (h1 : ¬ (70000 < (c.length : Int))) (h2 : (s.length : Int) = 0) (h5 : 1 ≤ rt) (h6 : ¬ (rt ≤ 255)) : ∀ k r, (k, r) ∈ hy13 → HOk (cx (nuL (nu13 rt ri c rp s n)) (one13 rt ri c rp s n) 1 laidE laidE_stab) k r := by
  unfold hy13
  refine hcons (kLenE (isX rfl) (denX rfl) (by first | omega | (simp only [List.length_append, List.length_cons, List.length_nil, List.length_take, List.length_drop, List.length_replicate, Int.natCast_add] at *; omega))) ?_
  refine hcons (kGt (isX rfl) (isZ (m := 3000) rfl) (decide_eq_false (by omega))) ?_
  refine hcons (kLenE (isX rfl) (denX rfl) (by first | omega | (simp only [List.length_append, List.length_cons, List.length_nil, List.length_take, List.length_drop, List.length_replicate, Int.natCast_add] at *; omega))) ?_
  refine hcons (kGt (isX rfl) (isZ (m := 70000) rfl) (decide_eq_false (by omega))) ?_
  refine hcons (kNeS (isX rfl) (isSx (l := ([] : List UInt8)) 0 0 rfl) (bnF (by first | exact nilT (by first | omega | (simp only [List.length_append, List.length_cons, List.length_nil, List.length_take, List.length_drop, List.length_replicate, Int.natCast_add] at *; omega)) | exact nilF (by first | omega | (simp only [List.length_append, List.length_cons, List.length_nil, List.length_take, List.length_drop, List.length_replicate, Int.natCast_add] at *; omega)) | exact nilT' (by first | omega | (simp only [List.length_append, List.length_cons, List.length_nil, List.length_take, List.length_drop, List.length_replicate, Int.natCast_add] at *; omega)) | exact nilF' (by first | omega | (simp only [List.length_append, List.length_cons, List.length_nil, List.length_take, List.length_drop, List.length_replicate, Int.natCast_add] at *; omega))))) ?_
  refine hcons (kLt (isX rfl) (isZ (m := 8) rfl) (decide_eq_true (by omega))) ?_
  refine hcons (kGt (isX rfl) (isZ (m := 0) rfl) (decide_eq_false (by omega))) ?_
  refine hcons (kGe (isX rfl) (isZ (m := 1) rfl) (decide_eq_true (by omega))) ?_
  refine hcons (kLe (isX rfl) (isZ (m := 255) rfl) (decide_eq_false (by omega))) ?_
  refine hcons (kEqS (isX rfl) (isX rfl) (decide_eq_true rfl)) ?_
  refine hcons (kMax (isX rfl) (isZ (m := 0) rfl) (denX rfl) rfl) ?_
  refine hcons (kNeg (isX rfl) (denX rfl) (by omega) (fI64 (by omega) (by omega))) ?_
  refine hcons (kAndG 3 8 rfl (by decide) (isX rfl) (isZ (m := 7) rfl) (denX rfl) (fI64 (by omega) (by omega)) rfl rfl (fI64 (by omega) (by omega))) ?_
  refine hcons (kMax (isZ (m := 0) rfl) (isX rfl) (denX rfl) rfl) ?_
  refine hcons (kRem (isX rfl) (isZ (m := 8) rfl) (denX rfl) (by omega) (by omega) rfl) ?_
  refine hcons (kSub (isZ (m := 8) rfl) (isX rfl) (denX rfl) (by omega) (fI64 (by omega) (by omega))) ?_
  refine hcons (kRem (isX rfl) (isZ (m := 8) rfl) (denX rfl) (by omega) (by omega) rfl) ?_
  refine hcons (kEqI (isX rfl) (isX rfl) (decide_eq_true (by omega))) ?_
  exact hnil
theorem path13 (rt : Int) (ri : Int) (c : List UInt8) (rp : Int) (s : List UInt8) (n : Int) (b0 : -9223372036854775808 ≤ rt) (b1 : rt ≤ 9223372036854775807) (b2 : -9223372036854775808 ≤ ri) (b3 : ri ≤ 9223372036854775807) (b4 : c.length ≤ 9223372036854775807) (b5 : -9223372036854775808 ≤ rp) (b6 : rp ≤ 9223372036854775807) (b7 : s.length ≤ 9223372036854775807) (b8 : -9223372036854775808 ≤ n) (b9 : n ≤ 9223372036854775807) (h0 : ¬ (3000 < (s.length : Int))) (h1 : ¬ (70000 < (c.length : Int))) (h2 : (s.length : Int) = 0) (h5 : 1 ≤ rt) (h6 : ¬ (rt ≤ 255)) (w : World) (hl : laidE w) : Calls Tryd.prog 5 #[.agg #[.int .i64 rt, .int .i64 ri, St' c, .int .i64 rp], St' s, .int .i64 n] w fun e w' => e = .returned (.bool true) ∧ Go.AX.Below w.heap.size w w' := by
  obtain ⟨fi, hfi, hb⟩ : ∃ fi, tabk.fn.get 5 = some fi ∧ fi.body.isSome = true := ⟨_, rfl, by kernel_rfl⟩
  exact runP (tb := tab13) ((tabkOk (nuL (nu13 rt ri c rp s n)) (one13 rt ri c rp s n)).hyps (hyOk13 rt ri c rp s n b0 b1 b2 b3 b4 b5 b6 b7 b8 b9 h0 h1 h2 h5 h6)) rfl hfi hb (fun e => run13 e ) (args := [.agg #[.int .i64 rt, .int .i64 ri, St' c, .int .i64 rp], St' s, .int .i64 n]) (by simp only [RelL, Rel]; exact ⟨_, _, rfl, ⟨_, rfl, ⟨_, _, rfl, rfl, ⟨_, _, rfl, rfl, ⟨_, _, rfl, rfl, ⟨_, _, rfl, rfl, rfl⟩⟩⟩⟩⟩, ⟨_, _, rfl, rfl, ⟨_, _, rfl, rfl, rfl⟩⟩⟩) w hl
def hy14 : List (HK × AV) := [(.len (.x 4), .x 6),
  (.bin .gtr (.x 6) (.i .i64 (.ofNat 3000)), .b false),
  (.len (.x 2), .x 7),
  (.bin .gtr (.x 7) (.i .i64 (.ofNat 70000)), .b false),
  (.bin .neq (.x 4) (.s 0 0), .b true),
  (.idx (.x 4) (.i .i64 (.ofNat 0)), .x 8),
  (.bin .neq (.x 8) (.i .u8 (.ofNat 1)), .b true),
  (.bin .gtr (.x 6) (.i .i64 (.ofNat 0)), .b true),
  (.bin .geq (.x 0) (.i .i64 (.ofNat 1)), .b true),
  (.bin .leq (.x 0) (.i .i64 (.ofNat 255)), .b false),
  (.bin .eql (.x 4) (.x 4), .b true),
  (.mm true (.x 5) (.i .i64 (.ofNat 0)), .x 9),
  (.un .neg (.x 9), .x 10),
  (.bin .and (.x 10) (.i .i64 (.ofNat 7)), .x 11),
  (.mm true (.i .i64 (.ofNat 0)) (.x 5), .x 12),
  (.bin .rem (.x 12) (.i .i64 (.ofNat 8)), .x 13),
  (.bin .sub (.i .i64 (.ofNat 8)) (.x 13), .x 14),
  (.bin .rem (.x 14) (.i .i64 (.ofNat 8)), .x 15),
  (.bin .eql (.x 11) (.x 15), .b true)]
noncomputable def tab14 : Tab := { tabk with hyp := hy14 }
theorem run14 (e : Nat) : okB (call tab14 9000 5 [.ag [.x 0, .x 1, .x 2, .x 3], .x 4, .x 5] ⟨H0 e , 7, 0, 0⟩) = true := by kernel_rfl
def nu14 (rt : Int) (ri : Int) (c : List UInt8) (rp : Int) (s : List UInt8) (n : Int) : List Value := [.int .i64 (rt),
  .int .i64 (ri),
  St' c,
  .int .i64 (rp),
  St' s,
  .int .i64 (n),
  .int .i64 ((s.length : Int)),
  .int .i64 ((c.length : Int)),
  .int .u8 (bt s 0),
  .int .i64 (max n 0),
  .int .i64 (-((max n 0))),
  .int .i64 ((-((max n 0))) % 8),
  .int .i64 (max 0 n),
  .int .i64 ((max 0 n) % 8),
  .int .i64 (8 - ((max 0 n) % 8)),
  .int .i64 ((8 - ((max 0 n) % 8)) % 8)]
theorem one14 (rt : Int) (ri : Int) (c : List UInt8) (rp : Int) (s : List UInt8) (n : Int) : ∀ j, (nuL (nu14 rt ri c rp s n) j).oneCell' = true := nuL_one (l := nu14 rt ri c rp s n) rfl
set_option maxHeartbeats 2000000 in
theorem hyOk14 (rt : Int) (ri : Int) (c : List UInt8) (rp : Int) (s : List UInt8) (n : Int) (b0 : -9223372036854775808 ≤ rt) (b1 : rt ≤ 9223372036854775807) (b2 : -9223372036854775808 ≤ ri) (b3 : ri ≤ 9223372036854775807) (b4 : c.length ≤ 9223372036854775807) (b5 : -9223372036854775808 ≤ rp) (b6 : rp ≤ 9223372036854775807) (b7 : s.length ≤ 9223372036854775807) (b8 : -9223372036854775808 ≤ n) (b9 : n ≤ 9223372036854775807) (h0 : ¬ (3000 < (s.length : Int))) (h1 : ¬ (70000 < (c.length : Int))) (h2 : ¬ ((s.length : Int) = 0)) (h3 : ¬ (bt s 0 = 1)) (h5 : 1 ≤ rt) (h6 : ¬ (rt ≤ 255)) : ∀ k r, (k, r) ∈ hy14 → HOk (cx (nuL (nu14 rt ri c rp s n)) (one14 rt ri c rp s n) 1 laidE laidE_stab) k r := by
  have := bt_lo s 0; have := bt_hi s 0
  unfold hy14
  refine hcons (kLenE (isX rfl) (denX rfl) (by first | omega | (simp only [List.length_append, List.length_cons, List.length_nil, List.length_take, List.length_drop, List.length_replicate, Int.natCast_add] at *; omega))) ?_
  refine hcons (kGt (isX rfl) (isZ (m := 3000) rfl) (decide_eq_false (by omega))) ?_
  refine hcons (kLenE (isX rfl) (denX rfl) (by first | omega | (simp only [List.length_append, List.length_cons, List.length_nil, List.length_take, List.length_drop, List.length_replicate, Int.natCast_add] at *; omega))) ?_
  refine hcons (kGt (isX rfl) (isZ (m := 70000) rfl) (decide_eq_false (by omega))) ?_
  refine hcons (kNeS (isX rfl) (isSx (l := ([] : List UInt8)) 0 0 rfl) (bnT (by first | exact nilT (by first | omega | (simp only [List.length_append, List.length_cons, List.length_nil, List.length_take, List.length_drop, List.length_replicate, Int.natCast_add] at *; omega)) | exact nilF (by first | omega | (simp only [List.length_append, List.length_cons, List.length_nil, List.length_take, List.length_drop, List.length_replicate, Int.natCast_add] at *; omega)) | exact nilT' (by first | omega | (simp only [List.length_append, List.length_cons, List.length_nil, List.length_take, List.length_drop, List.length_replicate, Int.natCast_add] at *; omega)) | exact nilF' (by first | omega | (simp only [List.length_append, List.length_cons, List.length_nil, List.length_take, List.length_drop, List.length_replicate, Int.natCast_add] at *; omega))))) ?_
  refine hcons (kIdxE (i := 0) (isX rfl) (isZ (m := 0) rfl) (denX rfl) rfl (by first | omega | (simp only [List.length_append, List.length_cons, List.length_nil, List.length_take, List.length_drop, List.length_replicate, Int.natCast_add] at *; omega)) rfl) ?_
  refine hcons (kNeI (isX rfl) (isZ (m := 1) rfl) (neT (by omega))) ?_
  refine hcons (kGt (isX rfl) (isZ (m := 0) rfl) (decide_eq_true (by omega))) ?_
  refine hcons (kGe (isX rfl) (isZ (m := 1) rfl) (decide_eq_true (by omega))) ?_
  refine hcons (kLe (isX rfl) (isZ (m := 255) rfl) (decide_eq_false (by omega))) ?_
  refine hcons (kEqS (isX rfl) (isX rfl) (decide_eq_true rfl)) ?_
  refine hcons (kMax (isX rfl) (isZ (m := 0) rfl) (denX rfl) rfl) ?_
  refine hcons (kNeg (isX rfl) (denX rfl) (by omega) (fI64 (by omega) (by omega))) ?_
  refine hcons (kAndG 3 8 rfl (by decide) (isX rfl) (isZ (m := 7) rfl) (denX rfl) (fI64 (by omega) (by omega)) rfl rfl (fI64 (by omega) (by omega))) ?_
  refine hcons (kMax (isZ (m := 0) rfl) (isX rfl) (denX rfl) rfl) ?_
  refine hcons (kRem (isX rfl) (isZ (m := 8) rfl) (denX rfl) (by omega) (by omega) rfl) ?_
  refine hcons (kSub (isZ (m := 8) rfl) (isX rfl) (denX rfl) (by omega) (fI64 (by omega) (by omega))) ?_
  refine hcons (kRem (isX rfl) (isZ (m := 8) rfl) (denX rfl) (by omega) (by omega) rfl) ?_
  refine hcons (kEqI (isX rfl) (isX rfl) (decide_eq_true (by omega))) ?_
  exact hnil
theorem path14 (rt : Int) (ri : Int) (c : List UInt8) (rp : Int) (s : List UInt8) (n : Int) (b0 : -9223372036854775808 ≤ rt) (b1 : rt ≤ 9223372036854775807) (b2 : -9223372036854775808 ≤ ri) (b3 : ri ≤ 9223372036854775807) (b4 : c.length ≤ 9223372036854775807) (b5 : -9223372036854775808 ≤ rp) (b6 : rp ≤ 9223372036854775807) (b7 : s.length ≤ 9223372036854775807) (b8 : -9223372036854775808 ≤ n) (b9 : n ≤ 9223372036854775807) (h0 : ¬ (3000 < (s.length : Int))) (h1 : ¬ (70000 < (c.length : Int))) (h2 : ¬ ((s.length : Int) = 0)) (h3 : ¬ (bt s 0 = 1)) (h5 : 1 ≤ rt) (h6 : ¬ (rt ≤ 255)) (w : World) (hl : laidE w) : Calls Tryd.prog 5 #[.agg #[.int .i64 rt, .int .i64 ri, St' c, .int .i64 rp], St' s, .int .i64 n] w fun e w' => e = .returned (.bool true) ∧ Go.AX.Below w.heap.size w w' := by
  obtain ⟨fi, hfi, hb⟩ : ∃ fi, tabk.fn.get 5 = some fi ∧ fi.body.isSome = true := ⟨_, rfl, by kernel_rfl⟩
  exact runP (tb := tab14) ((tabkOk (nuL (nu14 rt ri c rp s n)) (one14 rt ri c rp s n)).hyps (hyOk14 rt ri c rp s n b0 b1 b2 b3 b4 b5 b6 b7 b8 b9 h0 h1 h2 h3 h5 h6)) rfl hfi hb (fun e => run14 e ) (args := [.agg #[.int .i64 rt, .int .i64 ri, St' c, .int .i64 rp], St' s, .int .i64 n]) (by simp only [RelL, Rel]; exact ⟨_, _, rfl, ⟨_, rfl, ⟨_, _, rfl, rfl, ⟨_, _, rfl, rfl, ⟨_, _, rfl, rfl, ⟨_, _, rfl, rfl, rfl⟩⟩⟩⟩⟩, ⟨_, _, rfl, rfl, ⟨_, _, rfl, rfl, rfl⟩⟩⟩) w hl
def hy15 : List (HK × AV) := [(.len (.x 4), .x 6),
  (.bin .gtr (.x 6) (.i .i64 (.ofNat 3000)), .b false),
  (.len (.x 2), .x 7),
  (.bin .gtr (.x 7) (.i .i64 (.ofNat 70000)), .b false),
  (.bin .neq (.x 4) (.s 0 0), .b true),
  (.idx (.x 4) (.i .i64 (.ofNat 0)), .x 8),
  (.bin .neq (.x 8) (.i .u8 (.ofNat 1)), .b false),
  (.bin .lss (.x 6) (.i .i64 (.ofNat 8)), .b true),
  (.bin .gtr (.x 6) (.i .i64 (.ofNat 0)), .b true),
  (.bin .geq (.x 0) (.i .i64 (.ofNat 1)), .b true),
  (.bin .leq (.x 0) (.i .i64 (.ofNat 255)), .b false),
  (.bin .eql (.x 4) (.x 4), .b true),
  (.mm true (.x 5) (.i .i64 (.ofNat 0)), .x 9),
  (.un .neg (.x 9), .x 10),
  (.bin .and (.x 10) (.i .i64 (.ofNat 7)), .x 11),
  (.mm true (.i .i64 (.ofNat 0)) (.x 5), .x 12),
  (.bin .rem (.x 12) (.i .i64 (.ofNat 8)), .x 13),
  (.bin .sub (.i .i64 (.ofNat 8)) (.x 13), .x 14),
  (.bin .rem (.x 14) (.i .i64 (.ofNat 8)), .x 15),
  (.bin .eql (.x 11) (.x 15), .b true)]
noncomputable def tab15 : Tab := { tabk with hyp := hy15 }
theorem run15 (e : Nat) : okB (call tab15 9000 5 [.ag [.x 0, .x 1, .x 2, .x 3], .x 4, .x 5] ⟨H0 e , 7, 0, 0⟩) = true := by kernel_rfl
def nu15 (rt : Int) (ri : Int) (c : List UInt8) (rp : Int) (s : List UInt8) (n : Int) : List Value := [.int .i64 (rt),
  .int .i64 (ri),
  St' c,
  .int .i64 (rp),
  St' s,
  .int .i64 (n),
  .int .i64 ((s.length : Int)),
  .int .i64 ((c.length : Int)),
  .int .u8 (bt s 0),
  .int .i64 (max n 0),
  .int .i64 (-((max n 0))),
  .int .i64 ((-((max n 0))) % 8),
  .int .i64 (max 0 n),
  .int .i64 ((max 0 n) % 8),
  .int .i64 (8 - ((max 0 n) % 8)),
  .int .i64 ((8 - ((max 0 n) % 8)) % 8)]
theorem one15 (rt : Int) (ri : Int) (c : List UInt8) (rp : Int) (s : List UInt8) (n : Int) : ∀ j, (nuL (nu15 rt ri c rp s n) j).oneCell' = true := nuL_one (l := nu15 rt ri c rp s n) rfl
set_option maxHeartbeats 2000000 in
theorem hyOk15 (rt : Int) (ri : Int) (c : List UInt8) (rp : Int) (s : List UInt8) (n : Int) (b0 : -9223372036854775808 ≤ rt) (b1 : rt ≤ 9223372036854775807) (b2 : -9223372036854775808 ≤ ri) (b3 : ri ≤ 9223372036854775807) (b4 : c.length ≤ 9223372036854775807) (b5 : -9223372036854775808 ≤ rp) (b6 : rp ≤ 9223372036854775807) (b7 : s.length ≤ 9223372036854775807) (b8 : -9223372036854775808 ≤ n) (b9 : n ≤ 9223372036854775807) (h0 : ¬ (3000 < (s.length : Int))) (h1 : ¬ (70000 < (c.length : Int))) (h2 : ¬ ((s.length : Int) = 0)) (h3 : bt s 0 = 1) (h4 : (s.length : Int) < 8) (h6 : 1 ≤ rt) (h7 : ¬ (rt ≤ 255)) : ∀ k r, (k, r) ∈ hy15 → HOk (cx (nuL (nu15 rt ri c rp s n)) (one15 rt ri c rp s n) 1 laidE laidE_stab) k r := by
  have := bt_lo s 0; have := bt_hi s 0
  unfold hy15
  refine hcons (kLenE (isX rfl) (denX rfl) (by first | omega | (simp only [List.length_append, List.length_cons, List.length_nil, List.length_take, List.length_drop, List.length_replicate, Int.natCast_add] at *; omega))) ?_
  refine hcons (kGt (isX rfl) (isZ (m := 3000) rfl) (decide_eq_false (by omega))) ?_
  refine hcons (kLenE (isX rfl) (denX rfl) (by first | omega | (simp only [List.length_append, List.length_cons, List.length_nil, List.length_take, List.length_drop, List.length_replicate, Int.natCast_add] at *; omega))) ?_
  refine hcons (kGt (isX rfl) (isZ (m := 70000) rfl) (decide_eq_false (by omega))) ?_
  refine hcons (kNeS (isX rfl) (isSx (l := ([] : List UInt8)) 0 0 rfl) (bnT (by first | exact nilT (by first | omega | (simp only [List.length_append, List.length_cons, List.length_nil, List.length_take, List.length_drop, List.length_replicate, Int.natCast_add] at *; omega)) | exact nilF (by first | omega | (simp only [List.length_append, List.length_cons, List.length_nil, List.length_take, List.length_drop, List.length_replicate, Int.natCast_add] at *; omega)) | exact nilT' (by first | omega | (simp only [List.length_append, List.length_cons, List.length_nil, List.length_take, List.length_drop, List.length_replicate, Int.natCast_add] at *; omega)) | exact nilF' (by first | omega | (simp only [List.length_append, List.length_cons, List.length_nil, List.length_take, List.length_drop, List.length_replicate, Int.natCast_add] at *; omega))))) ?_
  refine hcons (kIdxE (i := 0) (isX rfl) (isZ (m := 0) rfl) (denX rfl) rfl (by first | omega | (simp only [List.length_append, List.length_cons, List.length_nil, List.length_take, List.length_drop, List.length_replicate, Int.natCast_add] at *; omega)) rfl) ?_
  refine hcons (kNeI (isX rfl) (isZ (m := 1) rfl) (neF (by omega))) ?_
  refine hcons (kLt (isX rfl) (isZ (m := 8) rfl) (decide_eq_true (by omega))) ?_
  refine hcons (kGt (isX rfl) (isZ (m := 0) rfl) (decide_eq_true (by omega))) ?_
  refine hcons (kGe (isX rfl) (isZ (m := 1) rfl) (decide_eq_true (by omega))) ?_
  refine hcons (kLe (isX rfl) (isZ (m := 255) rfl) (decide_eq_false (by omega))) ?_
  refine hcons (kEqS (isX rfl) (isX rfl) (decide_eq_true rfl)) ?_
  refine hcons (kMax (isX rfl) (isZ (m := 0) rfl) (denX rfl) rfl) ?_
  refine hcons (kNeg (isX rfl) (denX rfl) (by omega) (fI64 (by omega) (by omega))) ?_
  refine hcons (kAndG 3 8 rfl (by decide) (isX rfl) (isZ (m := 7) rfl) (denX rfl) (fI64 (by omega) (by omega)) rfl rfl (fI64 (by omega) (by omega))) ?_
  refine hcons (kMax (isZ (m := 0) rfl) (isX rfl) (denX rfl) rfl) ?_
  refine hcons (kRem (isX rfl) (isZ (m := 8) rfl) (denX rfl) (by omega) (by omega) rfl) ?_
  refine hcons (kSub (isZ (m := 8) rfl) (isX rfl) (denX rfl) (by omega) (fI64 (by omega) (by omega))) ?_
  refine hcons (kRem (isX rfl) (isZ (m := 8) rfl) (denX rfl) (by omega) (by omega) rfl) ?_
  refine hcons (kEqI (isX rfl) (isX rfl) (decide_eq_true (by omega))) ?_
  exact hnil
theorem path15 (rt : Int) (ri : Int) (c : List UInt8) (rp : Int) (s : List UInt8) (n : Int) (b0 : -9223372036854775808 ≤ rt) (b1 : rt ≤ 9223372036854775807) (b2 : -9223372036854775808 ≤ ri) (b3 : ri ≤ 9223372036854775807) (b4 : c.length ≤ 9223372036854775807) (b5 : -9223372036854775808 ≤ rp) (b6 : rp ≤ 9223372036854775807) (b7 : s.length ≤ 9223372036854775807) (b8 : -9223372036854775808 ≤ n) (b9 : n ≤ 9223372036854775807) (h0 : ¬ (3000 < (s.length : Int))) (h1 : ¬ (70000 < (c.length : Int))) (h2 : ¬ ((s.length : Int) = 0)) (h3 : bt s 0 = 1) (h4 : (s.length : Int) < 8) (h6 : 1 ≤ rt) (h7 : ¬ (rt ≤ 255)) (w : World) (hl : laidE w) : Calls Tryd.prog 5 #[.agg #[.int .i64 rt, .int .i64 ri, St' c, .int .i64 rp], St' s, .int .i64 n] w fun e w' => e = .returned (.bool true) ∧ Go.AX.Below w.heap.size w w' := by
  obtain ⟨fi, hfi, hb⟩ : ∃ fi, tabk.fn.get 5 = some fi ∧ fi.body.isSome = true := ⟨_, rfl, by kernel_rfl⟩
  exact runP (tb := tab15) ((tabkOk (nuL (nu15 rt ri c rp s n)) (one15 rt ri c rp s n)).hyps (hyOk15 rt ri c rp s n b0 b1 b2 b3 b4 b5 b6 b7 b8 b9 h0 h1 h2 h3 h4 h6 h7)) rfl hfi hb (fun e => run15 e ) (args := [.agg #[.int .i64 rt, .int .i64 ri, St' c, .int .i64 rp], St' s, .int .i64 n]) (by simp only [RelL, Rel]; exact ⟨_, _, rfl, ⟨_, rfl, ⟨_, _, rfl, rfl, ⟨_, _, rfl, rfl, ⟨_, _, rfl, rfl, ⟨_, _, rfl, rfl, rfl⟩⟩⟩⟩⟩, ⟨_, _, rfl, rfl, ⟨_, _, rfl, rfl, rfl⟩⟩⟩) w hl
def hy16 : List (HK × AV) := [(.len (.x 4), .x 6),
  (.bin .gtr (.x 6) (.i .i64 (.ofNat 3000)), .b false),
  (.len (.x 2), .x 7),
  (.bin .gtr (.x 7) (.i .i64 (.ofNat 70000)), .b false),
  (.bin .neq (.x 4) (.s 0 0), .b true),
  (.idx (.x 4) (.i .i64 (.ofNat 0)), .x 8),
  (.bin .neq (.x 8) (.i .u8 (.ofNat 1)), .b false),
  (.bin .lss (.x 6) (.i .i64 (.ofNat 8)), .b false),
  (.idx (.x 4) (.i .i64 (.ofNat 4)), .x 9),
  (.conv 3 (.x 9), .x 10),
  (.bin .shl (.x 10) (.i .u64 (.ofNat 8)), .x 11),
  (.bin .add (.i .i64 (.ofNat 8)) (.x 11), .x 12),
  (.idx (.x 4) (.i .i64 (.ofNat 5)), .x 13),
  (.conv 3 (.x 13), .x 14),
  (.bin .add (.x 12) (.x 14), .x 15),
  (.idx (.x 4) (.i .i64 (.ofNat 6)), .x 16),
  (.conv 3 (.x 16), .x 17),
  (.bin .add (.x 15) (.x 17), .x 18),
  (.bin .lss (.x 6) (.x 18), .b false),
  (.idx (.x 4) (.i .i64 (.ofNat 1)), .x 19),
  (.bin .eql (.x 19) (.i .u8 (.ofNat 0)), .b false),
  (.conv 3 (.x 19), .x 20),
  (.idx (.x 4) (.i .i64 (.ofNat 2)), .x 21),
  (.conv 3 (.x 21), .x 22),
  (.bin .shl (.x 22) (.i .u64 (.ofNat 8)), .x 23),
  (.idx (.x 4) (.i .i64 (.ofNat 3)), .x 24),
  (.conv 3 (.x 24), .x 25),
  (.bin .or (.x 23) (.x 25), .x 26),
  (.bin .sub (.x 18) (.x 17), .x 27),
  (.sub (.x 4) (some (.i .i64 (.ofNat 8))) (some (.x 27)), .x 28),
  (.sub (.x 4) (some (.x 18)) none, .x 29),
  (.bin .gtr (.x 6) (.i .i64 (.ofNat 0)), .b true),
  (.bin .mul (.x 10) (.i .i64 (.ofNat 256)), .x 30),
  (.bin .add (.x 30) (.x 14), .x 31),
  (.bin .add (.i .i64 (.ofNat 8)) (.x 31), .x 32),
  (.bin .add (.x 32) (.x 17), .x 33),
  (.bin .lss (.x 6) (.x 33), .b false),
  (.bin .mul (.x 22) (.i .i64 (.ofNat 256)), .x 34),
  (.bin .add (.x 34) (.x 25), .x 35),
  (.sub (.x 4) (some (.i .i64 (.ofNat 8))) (some (.x 32)), .x 36),
  (.sub (.x 4) (some (.x 33)) none, .x 37),
  (.bin .geq (.x 0) (.i .i64 (.ofNat 1)), .b true),
  (.bin .leq (.x 0) (.i .i64 (.ofNat 255)), .b false),
  (.eq 3 (.x 20) (.x 20), .b true),
  (.eq 3 (.x 26) (.x 35), .b true),
  (.eq 9 (.x 28) (.x 36), .b true),
  (.eq 3 (.x 17) (.x 17), .b true),
  (.bin .eql (.x 29) (.x 37), .b true),
  (.mm true (.x 5) (.i .i64 (.ofNat 0)), .x 38),
  (.un .neg (.x 38), .x 39),
  (.bin .and (.x 39) (.i .i64 (.ofNat 7)), .x 40),
  (.mm true (.i .i64 (.ofNat 0)) (.x 5), .x 41),
  (.bin .rem (.x 41) (.i .i64 (.ofNat 8)), .x 42),
  (.bin .sub (.i .i64 (.ofNat 8)) (.x 42), .x 43),
  (.bin .rem (.x 43) (.i .i64 (.ofNat 8)), .x 44),
  (.bin .eql (.x 40) (.x 44), .b true)]
noncomputable def tab16 : Tab := { tabk with hyp := hy16 }
theorem run16 (e : Nat) : okB (call tab16 9000 5 [.ag [.x 0, .x 1, .x 2, .x 3], .x 4, .x 5] ⟨H0 e , 7, 0, 0⟩) = true := by kernel_rfl
def nu16 (rt : Int) (ri : Int) (c : List UInt8) (rp : Int) (s : List UInt8) (n : Int) : List Value := [.int .i64 (rt),
  .int .i64 (ri),
  St' c,
  .int .i64 (rp),
  St' s,
  .int .i64 (n),
  .int .i64 ((s.length : Int)),
  .int .i64 ((c.length : Int)),
  .int .u8 (bt s 0),
  .int .u8 (bt s 4),
  .int .i64 ((bt s 4)),
  .int .i64 ((bt s 4) * 256),
  .int .i64 ((bt s 4) * 256 + 8),
  .int .u8 (bt s 5),
  .int .i64 ((bt s 5)),
  .int .i64 ((bt s 4) * 256 + (bt s 5) + 8),
  .int .u8 (bt s 6),
  .int .i64 ((bt s 6)),
  .int .i64 ((bt s 4) * 256 + (bt s 5) + (bt s 6) + 8),
  .int .u8 (bt s 1),
  .int .i64 ((bt s 1)),
  .int .u8 (bt s 2),
  .int .i64 ((bt s 2)),
  .int .i64 ((bt s 2) * 256),
  .int .u8 (bt s 3),
  .int .i64 ((bt s 3)),
  .int .i64 ((bt s 2) * 256 + (bt s 3)),
  .int .i64 ((bt s 4) * 256 + (bt s 5) + 8),
  St' ((List.take ((bt s 4) * 256 + (bt s 5) + 8 - (8)).toNat (List.drop (Int.toNat 8) s))),
  St' ((List.take ((s.length : Int) - ((bt s 4) * 256 + (bt s 5) + (bt s 6) + 8)).toNat (List.drop ((bt s 4) * 256 + (bt s 5) + (bt s 6) + 8).toNat s))),
  .int .i64 ((bt s 4) * 256),
  .int .i64 ((bt s 4) * 256 + (bt s 5)),
  .int .i64 ((bt s 4) * 256 + (bt s 5) + 8),
  .int .i64 ((bt s 4) * 256 + (bt s 5) + (bt s 6) + 8),
  .int .i64 ((bt s 2) * 256),
  .int .i64 ((bt s 2) * 256 + (bt s 3)),
  St' ((List.take ((bt s 4) * 256 + (bt s 5) + 8 - (8)).toNat (List.drop (Int.toNat 8) s))),
  St' ((List.take ((s.length : Int) - ((bt s 4) * 256 + (bt s 5) + (bt s 6) + 8)).toNat (List.drop ((bt s 4) * 256 + (bt s 5) + (bt s 6) + 8).toNat s))),
  .int .i64 (max n 0),
  .int .i64 (-((max n 0))),
  .int .i64 ((-((max n 0))) % 8),
  .int .i64 (max 0 n),
  .int .i64 ((max 0 n) % 8),
  .int .i64 (8 - ((max 0 n) % 8)),
  .int .i64 ((8 - ((max 0 n) % 8)) % 8)]
theorem one16 (rt : Int) (ri : Int) (c : List UInt8) (rp : Int) (s : List UInt8) (n : Int) : ∀ j, (nuL (nu16 rt ri c rp s n) j).oneCell' = true := nuL_one (l := nu16 rt ri c rp s n) rfl
set_option maxHeartbeats 2000000 in
theorem hyOk16 (rt : Int) (ri : Int) (c : List UInt8) (rp : Int) (s : List UInt8) (n : Int) (b0 : -9223372036854775808 ≤ rt) (b1 : rt ≤ 9223372036854775807) (b2 : -9223372036854775808 ≤ ri) (b3 : ri ≤ 9223372036854775807) (b4 : c.length ≤ 9223372036854775807) (b5 : -9223372036854775808 ≤ rp) (b6 : rp ≤ 9223372036854775807) (b7 : s.length ≤ 9223372036854775807) (b8 : -9223372036854775808 ≤ n) (b9 : n ≤ 9223372036854775807) (h0 : ¬ (3000 < (s.length : Int))) (h1 : ¬ (70000 < (c.length : Int))) (h2 : ¬ ((s.length : Int) = 0)) (h3 : bt s 0 = 1) (h4 : ¬ ((s.length : Int) < 8)) (h5 : ¬ ((s.length : Int) < (bt s 4) * 256 + (bt s 5) + (bt s 6) + 8)) (h6 : ¬ (bt s 1 = 0)) (h9 : 1 ≤ rt) (h10 : ¬ (rt ≤ 255)) : ∀ k r, (k, r) ∈ hy16 → HOk (cx (nuL (nu16 rt ri c rp s n)) (one16 rt ri c rp s n) 1 laidE laidE_stab) k r := by
  have := bt_lo s 0; have := bt_hi s 0
  have := bt_lo s 4; have := bt_hi s 4
  have := bt_lo s 5; have := bt_hi s 5
  have := bt_lo s 6; have := bt_hi s 6
  have := bt_lo s 1; have := bt_hi s 1
  have := bt_lo s 2; have := bt_hi s 2
  have := bt_lo s 3; have := bt_hi s 3
  unfold hy16
  refine hcons (kLenE (isX rfl) (denX rfl) (by first | omega | (simp only [List.length_append, List.length_cons, List.length_nil, List.length_take, List.length_drop, List.length_replicate, Int.natCast_add] at *; omega))) ?_
  refine hcons (kGt (isX rfl) (isZ (m := 3000) rfl) (decide_eq_false (by omega))) ?_
  refine hcons (kLenE (isX rfl) (denX rfl) (by first | omega | (simp only [List.length_append, List.length_cons, List.length_nil, List.length_take, List.length_drop, List.length_replicate, Int.natCast_add] at *; omega))) ?_
  refine hcons (kGt (isX rfl) (isZ (m := 70000) rfl) (decide_eq_false (by omega))) ?_
  refine hcons (kNeS (isX rfl) (isSx (l := ([] : List UInt8)) 0 0 rfl) (bnT (by first | exact nilT (by first | omega | (simp only [List.length_append, List.length_cons, List.length_nil, List.length_take, List.length_drop, List.length_replicate, Int.natCast_add] at *; omega)) | exact nilF (by first | omega | (simp only [List.length_append, List.length_cons, List.length_nil, List.length_take, List.length_drop, List.length_replicate, Int.natCast_add] at *; omega)) | exact nilT' (by first | omega | (simp only [List.length_append, List.length_cons, List.length_nil, List.length_take, List.length_drop, List.length_replicate, Int.natCast_add] at *; omega)) | exact nilF' (by first | omega | (simp only [List.length_append, List.length_cons, List.length_nil, List.length_take, List.length_drop, List.length_replicate, Int.natCast_add] at *; omega))))) ?_
  refine hcons (kIdxE (i := 0) (isX rfl) (isZ (m := 0) rfl) (denX rfl) rfl (by first | omega | (simp only [List.length_append, List.length_cons, List.length_nil, List.length_take, List.length_drop, List.length_replicate, Int.natCast_add] at *; omega)) rfl) ?_
  refine hcons (kNeI (isX rfl) (isZ (m := 1) rfl) (neF (by omega))) ?_
  refine hcons (kLt (isX rfl) (isZ (m := 8) rfl) (decide_eq_false (by omega))) ?_
  refine hcons (kIdxE (i := 4) (isX rfl) (isZ (m := 4) rfl) (denX rfl) rfl (by first | omega | (simp only [List.length_append, List.length_cons, List.length_nil, List.length_take, List.length_drop, List.length_replicate, Int.natCast_add] at *; omega)) rfl) ?_
  refine hcons (kConvF (isX rfl) tu3 (denX rfl) (fI64 (by omega) (by omega))) ?_
  refine hcons (kShlM 8 256 rfl (isX rfl) (isZ (m := 8) rfl) (denX rfl) rfl (by decide) (by omega) (fI64 (by omega) (by omega))) ?_
  refine hcons (kAdd (isZ (m := 8) rfl) (isX rfl) (denX rfl) (by omega) (fI64 (by omega) (by omega))) ?_
  refine hcons (kIdxE (i := 5) (isX rfl) (isZ (m := 5) rfl) (denX rfl) rfl (by first | omega | (simp only [List.length_append, List.length_cons, List.length_nil, List.length_take, List.length_drop, List.length_replicate, Int.natCast_add] at *; omega)) rfl) ?_
  refine hcons (kConvF (isX rfl) tu3 (denX rfl) (fI64 (by omega) (by omega))) ?_
  refine hcons (kAdd (isX rfl) (isX rfl) (denX rfl) (by omega) (fI64 (by omega) (by omega))) ?_
  refine hcons (kIdxE (i := 6) (isX rfl) (isZ (m := 6) rfl) (denX rfl) rfl (by first | omega | (simp only [List.length_append, List.length_cons, List.length_nil, List.length_take, List.length_drop, List.length_replicate, Int.natCast_add] at *; omega)) rfl) ?_
  refine hcons (kConvF (isX rfl) tu3 (denX rfl) (fI64 (by omega) (by omega))) ?_
  refine hcons (kAdd (isX rfl) (isX rfl) (denX rfl) (by omega) (fI64 (by omega) (by omega))) ?_
  refine hcons (kLt (isX rfl) (isX rfl) (decide_eq_false (by omega))) ?_
  refine hcons (kIdxE (i := 1) (isX rfl) (isZ (m := 1) rfl) (denX rfl) rfl (by first | omega | (simp only [List.length_append, List.length_cons, List.length_nil, List.length_take, List.length_drop, List.length_replicate, Int.natCast_add] at *; omega)) rfl) ?_
  refine hcons (kEqI (isX rfl) (isZ (m := 0) rfl) (decide_eq_false (by omega))) ?_
  refine hcons (kConvF (isX rfl) tu3 (denX rfl) (fI64 (by omega) (by omega))) ?_
  refine hcons (kIdxE (i := 2) (isX rfl) (isZ (m := 2) rfl) (denX rfl) rfl (by first | omega | (simp only [List.length_append, List.length_cons, List.length_nil, List.length_take, List.length_drop, List.length_replicate, Int.natCast_add] at *; omega)) rfl) ?_
  refine hcons (kConvF (isX rfl) tu3 (denX rfl) (fI64 (by omega) (by omega))) ?_
  refine hcons (kShlM 8 256 rfl (isX rfl) (isZ (m := 8) rfl) (denX rfl) rfl (by decide) (by omega) (fI64 (by omega) (by omega))) ?_
  refine hcons (kIdxE (i := 3) (isX rfl) (isZ (m := 3) rfl) (denX rfl) rfl (by first | omega | (simp only [List.length_append, List.length_cons, List.length_nil, List.length_take, List.length_drop, List.length_replicate, Int.natCast_add] at *; omega)) rfl) ?_
  refine hcons (kConvF (isX rfl) tu3 (denX rfl) (fI64 (by omega) (by omega))) ?_
  refine hcons (kOrM 8 256 rfl (isX rfl) (isX rfl) (denX rfl) (by omega) (by omega) (fI64 (by omega) (by omega)) (fI64 (by omega) (by omega)) (by omega) (by omega) (by omega) (fI64 (by omega) (by omega))) ?_
  refine hcons (kSub (isX rfl) (isX rfl) (denX rfl) (by omega) (fI64 (by omega) (by omega))) ?_
  refine hcons (kMid (P := 8) (Q := (bt s 4) * 256 + (bt s 5) + 8) (isX rfl) (.inr ⟨_, _, rfl, (isZ (m := 8) rfl)⟩) (.inr ⟨_, _, rfl, (isX rfl)⟩) (by first | omega | (simp only [List.length_append, List.length_cons, List.length_nil, List.length_take, List.length_drop, List.length_replicate, Int.natCast_add] at *; omega)) (by first | omega | (simp only [List.length_append, List.length_cons, List.length_nil, List.length_take, List.length_drop, List.length_replicate, Int.natCast_add] at *; omega)) (by first | omega | (simp only [List.length_append, List.length_cons, List.length_nil, List.length_take, List.length_drop, List.length_replicate, Int.natCast_add] at *; omega)) (denX rfl)) ?_
  refine hcons (kMid (P := (bt s 4) * 256 + (bt s 5) + (bt s 6) + 8) (Q := (s.length : Int)) (isX rfl) (.inr ⟨_, _, rfl, (isX rfl)⟩) (.inl ⟨rfl, by first | omega | (simp only [List.length_append, List.length_cons, List.length_nil, List.length_take, List.length_drop, List.length_replicate, Int.natCast_add] at *; omega)⟩) (by first | omega | (simp only [List.length_append, List.length_cons, List.length_nil, List.length_take, List.length_drop, List.length_replicate, Int.natCast_add] at *; omega)) (by first | omega | (simp only [List.length_append, List.length_cons, List.length_nil, List.length_take, List.length_drop, List.length_replicate, Int.natCast_add] at *; omega)) (by first | omega | (simp only [List.length_append, List.length_cons, List.length_nil, List.length_take, List.length_drop, List.length_replicate, Int.natCast_add] at *; omega)) (denX rfl)) ?_
  refine hcons (kGt (isX rfl) (isZ (m := 0) rfl) (decide_eq_true (by omega))) ?_
  refine hcons (kMul (isX rfl) (isZ (m := 256) rfl) (denX rfl) (by omega) (fI64 (by omega) (by omega))) ?_
  refine hcons (kAdd (isX rfl) (isX rfl) (denX rfl) (by omega) (fI64 (by omega) (by omega))) ?_
  refine hcons (kAdd (isZ (m := 8) rfl) (isX rfl) (denX rfl) (by omega) (fI64 (by omega) (by omega))) ?_
  refine hcons (kAdd (isX rfl) (isX rfl) (denX rfl) (by omega) (fI64 (by omega) (by omega))) ?_
  refine hcons (kLt (isX rfl) (isX rfl) (decide_eq_false (by omega))) ?_
  refine hcons (kMul (isX rfl) (isZ (m := 256) rfl) (denX rfl) (by omega) (fI64 (by omega) (by omega))) ?_
  refine hcons (kAdd (isX rfl) (isX rfl) (denX rfl) (by omega) (fI64 (by omega) (by omega))) ?_
  refine hcons (kMid (P := 8) (Q := (bt s 4) * 256 + (bt s 5) + 8) (isX rfl) (.inr ⟨_, _, rfl, (isZ (m := 8) rfl)⟩) (.inr ⟨_, _, rfl, (isX rfl)⟩) (by first | omega | (simp only [List.length_append, List.length_cons, List.length_nil, List.length_take, List.length_drop, List.length_replicate, Int.natCast_add] at *; omega)) (by first | omega | (simp only [List.length_append, List.length_cons, List.length_nil, List.length_take, List.length_drop, List.length_replicate, Int.natCast_add] at *; omega)) (by first | omega | (simp only [List.length_append, List.length_cons, List.length_nil, List.length_take, List.length_drop, List.length_replicate, Int.natCast_add] at *; omega)) (denX rfl)) ?_
  refine hcons (kMid (P := (bt s 4) * 256 + (bt s 5) + (bt s 6) + 8) (Q := (s.length : Int)) (isX rfl) (.inr ⟨_, _, rfl, (isX rfl)⟩) (.inl ⟨rfl, by first | omega | (simp only [List.length_append, List.length_cons, List.length_nil, List.length_take, List.length_drop, List.length_replicate, Int.natCast_add] at *; omega)⟩) (by first | omega | (simp only [List.length_append, List.length_cons, List.length_nil, List.length_take, List.length_drop, List.length_replicate, Int.natCast_add] at *; omega)) (by first | omega | (simp only [List.length_append, List.length_cons, List.length_nil, List.length_take, List.length_drop, List.length_replicate, Int.natCast_add] at *; omega)) (by first | omega | (simp only [List.length_append, List.length_cons, List.length_nil, List.length_take, List.length_drop, List.length_replicate, Int.natCast_add] at *; omega)) (denX rfl)) ?_
  refine hcons (kGe (isX rfl) (isZ (m := 1) rfl) (decide_eq_true (by omega))) ?_
  refine hcons (kLe (isX rfl) (isZ (m := 255) rfl) (decide_eq_false (by omega))) ?_
  refine hcons (kEqT (isX rfl) (isX rfl) tu3 (decide_eq_true (by omega))) ?_
  refine hcons (kEqT (isX rfl) (isX rfl) tu3 (decide_eq_true (by omega))) ?_
  refine hcons (kEqTS (isX rfl) (isX rfl) tu9 (decide_eq_true rfl)) ?_
  refine hcons (kEqT (isX rfl) (isX rfl) tu3 (decide_eq_true (by omega))) ?_
  refine hcons (kEqS (isX rfl) (isX rfl) (decide_eq_true rfl)) ?_
  refine hcons (kMax (isX rfl) (isZ (m := 0) rfl) (denX rfl) rfl) ?_
  refine hcons (kNeg (isX rfl) (denX rfl) (by omega) (fI64 (by omega) (by omega))) ?_
  refine hcons (kAndG 3 8 rfl (by decide) (isX rfl) (isZ (m := 7) rfl) (denX rfl) (fI64 (by omega) (by omega)) rfl rfl (fI64 (by omega) (by omega))) ?_
  refine hcons (kMax (isZ (m := 0) rfl) (isX rfl) (denX rfl) rfl) ?_
  refine hcons (kRem (isX rfl) (isZ (m := 8) rfl) (denX rfl) (by omega) (by omega) rfl) ?_
  refine hcons (kSub (isZ (m := 8) rfl) (isX rfl) (denX rfl) (by omega) (fI64 (by omega) (by omega))) ?_
  refine hcons (kRem (isX rfl) (isZ (m := 8) rfl) (denX rfl) (by omega) (by omega) rfl) ?_
  refine hcons (kEqI (isX rfl) (isX rfl) (decide_eq_true (by omega))) ?_
  exact hnil
theorem path16 (rt : Int) (ri : Int) (c : List UInt8) (rp : Int) (s : List UInt8) (n : Int) (b0 : -9223372036854775808 ≤ rt) (b1 : rt ≤ 9223372036854775807) (b2 : -9223372036854775808 ≤ ri) (b3 : ri ≤ 9223372036854775807) (b4 : c.length ≤ 9223372036854775807) (b5 : -9223372036854775808 ≤ rp) (b6 : rp ≤ 9223372036854775807) (b7 : s.length ≤ 9223372036854775807) (b8 : -9223372036854775808 ≤ n) (b9 : n ≤ 9223372036854775807) (h0 : ¬ (3000 < (s.length : Int))) (h1 : ¬ (70000 < (c.length : Int))) (h2 : ¬ ((s.length : Int) = 0)) (h3 : bt s 0 = 1) (h4 : ¬ ((s.length : Int) < 8)) (h5 : ¬ ((s.length : Int) < (bt s 4) * 256 + (bt s 5) + (bt s 6) + 8)) (h6 : ¬ (bt s 1 = 0)) (h9 : 1 ≤ rt) (h10 : ¬ (rt ≤ 255)) (w : World) (hl : laidE w) : Calls Tryd.prog 5 #[.agg #[.int .i64 rt, .int .i64 ri, St' c, .int .i64 rp], St' s, .int .i64 n] w fun e w' => e = .returned (.bool true) ∧ Go.AX.Below w.heap.size w w' := by
  obtain ⟨fi, hfi, hb⟩ : ∃ fi, tabk.fn.get 5 = some fi ∧ fi.body.isSome = true := ⟨_, rfl, by kernel_rfl⟩
  exact runP (tb := tab16) ((tabkOk (nuL (nu16 rt ri c rp s n)) (one16 rt ri c rp s n)).hyps (hyOk16 rt ri c rp s n b0 b1 b2 b3 b4 b5 b6 b7 b8 b9 h0 h1 h2 h3 h4 h5 h6 h9 h10)) rfl hfi hb (fun e => run16 e ) (args := [.agg #[.int .i64 rt, .int .i64 ri, St' c, .int .i64 rp], St' s, .int .i64 n]) (by simp only [RelL, Rel]; exact ⟨_, _, rfl, ⟨_, rfl, ⟨_, _, rfl, rfl, ⟨_, _, rfl, rfl, ⟨_, _, rfl, rfl, ⟨_, _, rfl, rfl, rfl⟩⟩⟩⟩⟩, ⟨_, _, rfl, rfl, ⟨_, _, rfl, rfl, rfl⟩⟩⟩) w hl
def hy17 : List (HK × AV) := [(.len (.x 4), .x 6),
  (.bin .gtr (.x 6) (.i .i64 (.ofNat 3000)), .b false),
  (.len (.x 2), .x 7),
  (.bin .gtr (.x 7) (.i .i64 (.ofNat 70000)), .b false),
  (.bin .neq (.x 4) (.s 0 0), .b true),
  (.idx (.x 4) (.i .i64 (.ofNat 0)), .x 8),
  (.bin .neq (.x 8) (.i .u8 (.ofNat 1)), .b false),
  (.bin .lss (.x 6) (.i .i64 (.ofNat 8)), .b false),
  (.idx (.x 4) (.i .i64 (.ofNat 4)), .x 9),
  (.conv 3 (.x 9), .x 10),
  (.bin .shl (.x 10) (.i .u64 (.ofNat 8)), .x 11),
  (.bin .add (.i .i64 (.ofNat 8)) (.x 11), .x 12),
  (.idx (.x 4) (.i .i64 (.ofNat 5)), .x 13),
  (.conv 3 (.x 13), .x 14),
  (.bin .add (.x 12) (.x 14), .x 15),
  (.idx (.x 4) (.i .i64 (.ofNat 6)), .x 16),
  (.conv 3 (.x 16), .x 17),
  (.bin .add (.x 15) (.x 17), .x 18),
  (.bin .lss (.x 6) (.x 18), .b false),
  (.idx (.x 4) (.i .i64 (.ofNat 1)), .x 19),
  (.bin .eql (.x 19) (.i .u8 (.ofNat 0)), .b true),
  (.bin .gtr (.x 6) (.i .i64 (.ofNat 0)), .b true),
  (.bin .mul (.x 10) (.i .i64 (.ofNat 256)), .x 20),
  (.bin .add (.x 20) (.x 14), .x 21),
  (.bin .add (.i .i64 (.ofNat 8)) (.x 21), .x 22),
  (.bin .add (.x 22) (.x 17), .x 23),
  (.bin .lss (.x 6) (.x 23), .b false),
  (.bin .geq (.x 0) (.i .i64 (.ofNat 1)), .b true),
  (.bin .leq (.x 0) (.i .i64 (.ofNat 255)), .b false),
  (.bin .eql (.x 4) (.x 4), .b true),
  (.mm true (.x 5) (.i .i64 (.ofNat 0)), .x 24),
  (.un .neg (.x 24), .x 25),
  (.bin .and (.x 25) (.i .i64 (.ofNat 7)), .x 26),
  (.mm true (.i .i64 (.ofNat 0)) (.x 5), .x 27),
  (.bin .rem (.x 27) (.i .i64 (.ofNat 8)), .x 28),
  (.bin .sub (.i .i64 (.ofNat 8)) (.x 28), .x 29),
  (.bin .rem (.x 29) (.i .i64 (.ofNat 8)), .x 30),
  (.bin .eql (.x 26) (.x 30), .b true)]
noncomputable def tab17 : Tab := { tabk with hyp := hy17 }
theorem run17 (e : Nat) : okB (call tab17 9000 5 [.ag [.x 0, .x 1, .x 2, .x 3], .x 4, .x 5] ⟨H0 e , 7, 0, 0⟩) = true := by kernel_rfl
def nu17 (rt : Int) (ri : Int) (c : List UInt8) (rp : Int) (s : List UInt8) (n : Int) : List Value := [.int .i64 (rt),
  .int .i64 (ri),
  St' c,
  .int .i64 (rp),
  St' s,
  .int .i64 (n),
  .int .i64 ((s.length : Int)),
  .int .i64 ((c.length : Int)),
  .int .u8 (bt s 0),
  .int .u8 (bt s 4),
  .int .i64 ((bt s 4)),
  .int .i64 ((bt s 4) * 256),
  .int .i64 ((bt s 4) * 256 + 8),
  .int .u8 (bt s 5),
  .int .i64 ((bt s 5)),
  .int .i64 ((bt s 4) * 256 + (bt s 5) + 8),
  .int .u8 (bt s 6),
  .int .i64 ((bt s 6)),
  .int .i64 ((bt s 4) * 256 + (bt s 5) + (bt s 6) + 8),
  .int .u8 (bt s 1),
  .int .i64 ((bt s 4) * 256),
  .int .i64 ((bt s 4) * 256 + (bt s 5)),
  .int .i64 ((bt s 4) * 256 + (bt s 5) + 8),
  .int .i64 ((bt s 4) * 256 + (bt s 5) + (bt s 6) + 8),
  .int .i64 (max n 0),
  .int .i64 (-((max n 0))),
  .int .i64 ((-((max n 0))) % 8),
  .int .i64 (max 0 n),
  .int .i64 ((max 0 n) % 8),
  .int .i64 (8 - ((max 0 n) % 8)),
  .int .i64 ((8 - ((max 0 n) % 8)) % 8)]
theorem one17 (rt : Int) (ri : Int) (c : List UInt8) (rp : Int) (s : List UInt8) (n : Int) : ∀ j, (nuL (nu17 rt ri c rp s n) j).oneCell' = true := nuL_one (l := nu17 rt ri c rp s n) rfl
set_option maxHeartbeats 2000000 in
theorem hyOk17 (rt : Int) (ri : Int) (c : List UInt8) (rp : Int) (s : List UInt8) (n : Int) (b0 : -9223372036854775808 ≤ rt) (b1 : rt ≤ 9223372036854775807) (b2 : -9223372036854775808 ≤ ri) (b3 : ri ≤ 9223372036854775807) (b4 : c.length ≤ 9223372036854775807) (b5 : -9223372036854775808 ≤ rp) (b6 : rp ≤ 9223372036854775807) (b7 : s.length ≤ 9223372036854775807) (b8 : -9223372036854775808 ≤ n) (b9 : n ≤ 9223372036854775807) (h0 : ¬ (3000 < (s.length : Int))) (h1 : ¬ (70000 < (c.length : Int))) (h2 : ¬ ((s.length : Int) = 0)) (h3 : bt s 0 = 1) (h4 : ¬ ((s.length : Int) < 8)) (h5 : ¬ ((s.length : Int) < (bt s 4) * 256 + (bt s 5) + (bt s 6) + 8)) (h6 : bt s 1 = 0) (h9 : 1 ≤ rt) (h10 : ¬ (rt ≤ 255)) : ∀ k r, (k, r) ∈ hy17 → HOk (cx (nuL (nu17 rt ri c rp s n)) (one17 rt ri c rp s n) 1 laidE laidE_stab) k r := by
  have := bt_lo s 0; have := bt_hi s 0
  have := bt_lo s 4; have := bt_hi s 4
  have := bt_lo s 5; have := bt_hi s 5
  have := bt_lo s 6; have := bt_hi s 6
  have := bt_lo s 1; have := bt_hi s 1
  unfold hy17
  refine hcons (kLenE (isX rfl) (denX rfl) (by first | omega | (simp only [List.length_append, List.length_cons, List.length_nil, List.length_take, List.length_drop, List.length_replicate, Int.natCast_add] at *; omega))) ?_
  refine hcons (kGt (isX rfl) (isZ (m := 3000) rfl) (decide_eq_false (by omega))) ?_
  refine hcons (kLenE (isX rfl) (denX rfl) (by first | omega | (simp only [List.length_append, List.length_cons, List.length_nil, List.length_take, List.length_drop, List.length_replicate, Int.natCast_add] at *; omega))) ?_
  refine hcons (kGt (isX rfl) (isZ (m := 70000) rfl) (decide_eq_false (by omega))) ?_
  refine hcons (kNeS (isX rfl) (isSx (l := ([] : List UInt8)) 0 0 rfl) (bnT (by first | exact nilT (by first | omega | (simp only [List.length_append, List.length_cons, List.length_nil, List.length_take, List.length_drop, List.length_replicate, Int.natCast_add] at *; omega)) | exact nilF (by first | omega | (simp only [List.length_append, List.length_cons, List.length_nil, List.length_take, List.length_drop, List.length_replicate, Int.natCast_add] at *; omega)) | exact nilT' (by first | omega | (simp only [List.length_append, List.length_cons, List.length_nil, List.length_take, List.length_drop, List.length_replicate, Int.natCast_add] at *; omega)) | exact nilF' (by first | omega | (simp only [List.length_append, List.length_cons, List.length_nil, List.length_take, List.length_drop, List.length_replicate, Int.natCast_add] at *; omega))))) ?_
  refine hcons (kIdxE (i := 0) (isX rfl) (isZ (m := 0) rfl) (denX rfl) rfl (by first | omega | (simp only [List.length_append, List.length_cons, List.length_nil, List.length_take, List.length_drop, List.length_replicate, Int.natCast_add] at *; omega)) rfl) ?_
  refine hcons (kNeI (isX rfl) (isZ (m := 1) rfl) (neF (by omega))) ?_
  refine hcons (kLt (isX rfl) (isZ (m := 8) rfl) (decide_eq_false (by omega))) ?_
  refine hcons (kIdxE (i := 4) (isX rfl) (isZ (m := 4) rfl) (denX rfl) rfl (by first | omega | (simp only [List.length_append, List.length_cons, List.length_nil, List.length_take, List.length_drop, List.length_replicate, Int.natCast_add] at *; omega)) rfl) ?_
  refine hcons (kConvF (isX rfl) tu3 (denX rfl) (fI64 (by omega) (by omega))) ?_
  refine hcons (kShlM 8 256 rfl (isX rfl) (isZ (m := 8) rfl) (denX rfl) rfl (by decide) (by omega) (fI64 (by omega) (by omega))) ?_
  refine hcons (kAdd (isZ (m := 8) rfl) (isX rfl) (denX rfl) (by omega) (fI64 (by omega) (by omega))) ?_
  refine hcons (kIdxE (i := 5) (isX rfl) (isZ (m := 5) rfl) (denX rfl) rfl (by first | omega | (simp only [List.length_append, List.length_cons, List.length_nil, List.length_take, List.length_drop, List.length_replicate, Int.natCast_add] at *; omega)) rfl) ?_
  refine hcons (kConvF (isX rfl) tu3 (denX rfl) (fI64 (by omega) (by omega))) ?_
  refine hcons (kAdd (isX rfl) (isX rfl) (denX rfl) (by omega) (fI64 (by omega) (by omega))) ?_
  refine hcons (kIdxE (i := 6) (isX rfl) (isZ (m := 6) rfl) (denX rfl) rfl (by first | omega | (simp only [List.length_append, List.length_cons, List.length_nil, List.length_take, List.length_drop, List.length_replicate, Int.natCast_add] at *; omega)) rfl) ?_
  refine hcons (kConvF (isX rfl) tu3 (denX rfl) (fI64 (by omega) (by omega))) ?_
  refine hcons (kAdd (isX rfl) (isX rfl) (denX rfl) (by omega) (fI64 (by omega) (by omega))) ?_
  refine hcons (kLt (isX rfl) (isX rfl) (decide_eq_false (by omega))) ?_
  refine hcons (kIdxE (i := 1) (isX rfl) (isZ (m := 1) rfl) (denX rfl) rfl (by first | omega | (simp only [List.length_append, List.length_cons, List.length_nil, List.length_take, List.length_drop, List.length_replicate, Int.natCast_add] at *; omega)) rfl) ?_
  refine hcons (kEqI (isX rfl) (isZ (m := 0) rfl) (decide_eq_true (by omega))) ?_
  refine hcons (kGt (isX rfl) (isZ (m := 0) rfl) (decide_eq_true (by omega))) ?_
  refine hcons (kMul (isX rfl) (isZ (m := 256) rfl) (denX rfl) (by omega) (fI64 (by omega) (by omega))) ?_
  refine hcons (kAdd (isX rfl) (isX rfl) (denX rfl) (by omega) (fI64 (by omega) (by omega))) ?_
  refine hcons (kAdd (isZ (m := 8) rfl) (isX rfl) (denX rfl) (by omega) (fI64 (by omega) (by omega))) ?_
  refine hcons (kAdd (isX rfl) (isX rfl) (denX rfl) (by omega) (fI64 (by omega) (by omega))) ?_
  refine hcons (kLt (isX rfl) (isX rfl) (decide_eq_false (by omega))) ?_
  refine hcons (kGe (isX rfl) (isZ (m := 1) rfl) (decide_eq_true (by omega))) ?_
  refine hcons (kLe (isX rfl) (isZ (m := 255) rfl) (decide_eq_false (by omega))) ?_
  refine hcons (kEqS (isX rfl) (isX rfl) (decide_eq_true rfl)) ?_
  refine hcons (kMax (isX rfl) (isZ (m := 0) rfl) (denX rfl) rfl) ?_
  refine hcons (kNeg (isX rfl) (denX rfl) (by omega) (fI64 (by omega) (by omega))) ?_
  refine hcons (kAndG 3 8 rfl (by decide) (isX rfl) (isZ (m := 7) rfl) (denX rfl) (fI64 (by omega) (by omega)) rfl rfl (fI64 (by omega) (by omega))) ?_
  refine hcons (kMax (isZ (m := 0) rfl) (isX rfl) (denX rfl) rfl) ?_
  refine hcons (kRem (isX rfl) (isZ (m := 8) rfl) (denX rfl) (by omega) (by omega) rfl) ?_
  refine hcons (kSub (isZ (m := 8) rfl) (isX rfl) (denX rfl) (by omega) (fI64 (by omega) (by omega))) ?_
  refine hcons (kRem (isX rfl) (isZ (m := 8) rfl) (denX rfl) (by omega) (by omega) rfl) ?_
  refine hcons (kEqI (isX rfl) (isX rfl) (decide_eq_true (by omega))) ?_
  exact hnil
theorem path17 (rt : Int) (ri : Int) (c : List UInt8) (rp : Int) (s : List UInt8) (n : Int) (b0 : -9223372036854775808 ≤ rt) (b1 : rt ≤ 9223372036854775807) (b2 : -9223372036854775808 ≤ ri) (b3 : ri ≤ 9223372036854775807) (b4 : c.length ≤ 9223372036854775807) (b5 : -9223372036854775808 ≤ rp) (b6 : rp ≤ 9223372036854775807) (b7 : s.length ≤ 9223372036854775807) (b8 : -9223372036854775808 ≤ n) (b9 : n ≤ 9223372036854775807) (h0 : ¬ (3000 < (s.length : Int))) (h1 : ¬ (70000 < (c.length : Int))) (h2 : ¬ ((s.length : Int) = 0)) (h3 : bt s 0 = 1) (h4 : ¬ ((s.length : Int) < 8)) (h5 : ¬ ((s.length : Int) < (bt s 4) * 256 + (bt s 5) + (bt s 6) + 8)) (h6 : bt s 1 = 0) (h9 : 1 ≤ rt) (h10 : ¬ (rt ≤ 255)) (w : World) (hl : laidE w) : Calls Tryd.prog 5 #[.agg #[.int .i64 rt, .int .i64 ri, St' c, .int .i64 rp], St' s, .int .i64 n] w fun e w' => e = .returned (.bool true) ∧ Go.AX.Below w.heap.size w w' := by
  obtain ⟨fi, hfi, hb⟩ : ∃ fi, tabk.fn.get 5 = some fi ∧ fi.body.isSome = true := ⟨_, rfl, by kernel_rfl⟩
  exact runP (tb := tab17) ((tabkOk (nuL (nu17 rt ri c rp s n)) (one17 rt ri c rp s n)).hyps (hyOk17 rt ri c rp s n b0 b1 b2 b3 b4 b5 b6 b7 b8 b9 h0 h1 h2 h3 h4 h5 h6 h9 h10)) rfl hfi hb (fun e => run17 e ) (args := [.agg #[.int .i64 rt, .int .i64 ri, St' c, .int .i64 rp], St' s, .int .i64 n]) (by simp only [RelL, Rel]; exact ⟨_, _, rfl, ⟨_, rfl, ⟨_, _, rfl, rfl, ⟨_, _, rfl, rfl, ⟨_, _, rfl, rfl, ⟨_, _, rfl, rfl, rfl⟩⟩⟩⟩⟩, ⟨_, _, rfl, rfl, ⟨_, _, rfl, rfl, rfl⟩⟩⟩) w hl
def hy18 : List (HK × AV) := [(.len (.x 4), .x 6),
  (.bin .gtr (.x 6) (.i .i64 (.ofNat 3000)), .b false),
  (.len (.x 2), .x 7),
  (.bin .gtr (.x 7) (.i .i64 (.ofNat 70000)), .b false),
  (.bin .neq (.x 4) (.s 0 0), .b true),
  (.idx (.x 4) (.i .i64 (.ofNat 0)), .x 8),
  (.bin .neq (.x 8) (.i .u8 (.ofNat 1)), .b false),
  (.bin .lss (.x 6) (.i .i64 (.ofNat 8)), .b false),
  (.idx (.x 4) (.i .i64 (.ofNat 4)), .x 9),
  (.conv 3 (.x 9), .x 10),
  (.bin .shl (.x 10) (.i .u64 (.ofNat 8)), .x 11),
  (.bin .add (.i .i64 (.ofNat 8)) (.x 11), .x 12),
  (.idx (.x 4) (.i .i64 (.ofNat 5)), .x 13),
  (.conv 3 (.x 13), .x 14),
  (.bin .add (.x 12) (.x 14), .x 15),
  (.idx (.x 4) (.i .i64 (.ofNat 6)), .x 16),
  (.conv 3 (.x 16), .x 17),
  (.bin .add (.x 15) (.x 17), .x 18),
  (.bin .lss (.x 6) (.x 18), .b true),
  (.bin .gtr (.x 6) (.i .i64 (.ofNat 0)), .b true),
  (.bin .mul (.x 10) (.i .i64 (.ofNat 256)), .x 19),
  (.bin .add (.x 19) (.x 14), .x 20),
  (.bin .add (.i .i64 (.ofNat 8)) (.x 20), .x 21),
  (.bin .add (.x 21) (.x 17), .x 22),
  (.bin .lss (.x 6) (.x 22), .b true),
  (.bin .geq (.x 0) (.i .i64 (.ofNat 1)), .b true),
  (.bin .leq (.x 0) (.i .i64 (.ofNat 255)), .b false),
  (.bin .eql (.x 4) (.x 4), .b true),
  (.mm true (.x 5) (.i .i64 (.ofNat 0)), .x 23),
  (.un .neg (.x 23), .x 24),
  (.bin .and (.x 24) (.i .i64 (.ofNat 7)), .x 25),
  (.mm true (.i .i64 (.ofNat 0)) (.x 5), .x 26),
  (.bin .rem (.x 26) (.i .i64 (.ofNat 8)), .x 27),
  (.bin .sub (.i .i64 (.ofNat 8)) (.x 27), .x 28),
  (.bin .rem (.x 28) (.i .i64 (.ofNat 8)), .x 29),
  (.bin .eql (.x 25) (.x 29), .b true)]
noncomputable def tab18 : Tab := { tabk with hyp := hy18 }
theorem run18 (e : Nat) : okB (call tab18 9000 5 [.ag [.x 0, .x 1, .x 2, .x 3], .x 4, .x 5] ⟨H0 e , 7, 0, 0⟩) = true := by kernel_rfl
def nu18 (rt : Int) (ri : Int) (c : List UInt8) (rp : Int) (s : List UInt8) (n : Int) : List Value := [.int .i64 (rt),
  .int .i64 (ri),
  St' c,
  .int .i64 (rp),
  St' s,
  .int .i64 (n),
  .int .i64 ((s.length : Int)),
  .int .i64 ((c.length : Int)),
  .int .u8 (bt s 0),
  .int .u8 (bt s 4),
  .int .i64 ((bt s 4)),
  .int .i64 ((bt s 4) * 256),
  .int .i64 ((bt s 4) * 256 + 8),
  .int .u8 (bt s 5),
  .int .i64 ((bt s 5)),
  .int .i64 ((bt s 4) * 256 + (bt s 5) + 8),
  .int .u8 (bt s 6),
  .int .i64 ((bt s 6)),
  .int .i64 ((bt s 4) * 256 + (bt s 5) + (bt s 6) + 8),
  .int .i64 ((bt s 4) * 256),
  .int .i64 ((bt s 4) * 256 + (bt s 5)),
  .int .i64 ((bt s 4) * 256 + (bt s 5) + 8),
  .int .i64 ((bt s 4) * 256 + (bt s 5) + (bt s 6) + 8),
  .int .i64 (max n 0),
  .int .i64 (-((max n 0))),
  .int .i64 ((-((max n 0))) % 8),
  .int .i64 (max 0 n),
  .int .i64 ((max 0 n) % 8),
  .int .i64 (8 - ((max 0 n) % 8)),
  .int .i64 ((8 - ((max 0 n) % 8)) % 8)]
theorem one18 (rt : Int) (ri : Int) (c : List UInt8) (rp : Int) (s : List UInt8) (n : Int) : ∀ j, (nuL (nu18 rt ri c rp s n) j).oneCell' = true := nuL_one (l := nu18 rt ri c rp s n) rfl
set_option maxHeartbeats 2000000 in
theorem hyOk18 (rt : Int) (ri : Int) (c : List UInt8) (rp : Int) (s : List UInt8) (n : Int) (b0 : -9223372036854775808 ≤ rt) (b1 : rt ≤ 9223372036854775807) (b2 : -9223372036854775808 ≤ ri) (b3 : ri ≤ 9223372036854775807) (b4 : c.length ≤ 9223372036854775807) (b5 : -9223372036854775808 ≤ rp) (b6 : rp ≤ 9223372036854775807) (b7 : s.length ≤ 9223372036854775807) (b8 : -9223372036854775808 ≤ n) (b9 : n ≤ 9223372036854775807) (h0 : ¬ (3000 < (s.length : Int))) (h1 : ¬ (70000 < (c.length : Int))) (h2 : ¬ ((s.length : Int) = 0)) (h3 : bt s 0 = 1) (h4 : ¬ ((s.length : Int) < 8)) (h5 : (s.length : Int) < (bt s 4) * 256 + (bt s 5) + (bt s 6) + 8) (h8 : 1 ≤ rt) (h9 : ¬ (rt ≤ 255)) : ∀ k r, (k, r) ∈ hy18 → HOk (cx (nuL (nu18 rt ri c rp s n)) (one18 rt ri c rp s n) 1 laidE laidE_stab) k r := by
  have := bt_lo s 0; have := bt_hi s 0
  have := bt_lo s 4; have := bt_hi s 4
  have := bt_lo s 5; have := bt_hi s 5
  have := bt_lo s 6; have := bt_hi s 6
  unfold hy18
  refine hcons (kLenE (isX rfl) (denX rfl) (by first | omega | (simp only [List.length_append, List.length_cons, List.length_nil, List.length_take, List.length_drop, List.length_replicate, Int.natCast_add] at *; omega))) ?_
  refine hcons (kGt (isX rfl) (isZ (m := 3000) rfl) (decide_eq_false (by omega))) ?_
  refine hcons (kLenE (isX rfl) (denX rfl) (by first | omega | (simp only [List.length_append, List.length_cons, List.length_nil, List.length_take, List.length_drop, List.length_replicate, Int.natCast_add] at *; omega))) ?_
  refine hcons (kGt (isX rfl) (isZ (m := 70000) rfl) (decide_eq_false (by omega))) ?_
  refine hcons (kNeS (isX rfl) (isSx (l := ([] : List UInt8)) 0 0 rfl) (bnT (by first | exact nilT (by first | omega | (simp only [List.length_append, List.length_cons, List.length_nil, List.length_take, List.length_drop, List.length_replicate, Int.natCast_add] at *; omega)) | exact nilF (by first | omega | (simp only [List.length_append, List.length_cons, List.length_nil, List.length_take, List.length_drop, List.length_replicate, Int.natCast_add] at *; omega)) | exact nilT' (by first | omega | (simp only [List.length_append, List.length_cons, List.length_nil, List.length_take, List.length_drop, List.length_replicate, Int.natCast_add] at *; omega)) | exact nilF' (by first | omega | (simp only [List.length_append, List.length_cons, List.length_nil, List.length_take, List.length_drop, List.length_replicate, Int.natCast_add] at *; omega))))) ?_
  refine hcons (kIdxE (i := 0) (isX rfl) (isZ (m := 0) rfl) (denX rfl) rfl (by first | omega | (simp only [List.length_append, List.length_cons, List.length_nil, List.length_take, List.length_drop, List.length_replicate, Int.natCast_add] at *; omega)) rfl) ?_
  refine hcons (kNeI (isX rfl) (isZ (m := 1) rfl) (neF (by omega))) ?_
  refine hcons (kLt (isX rfl) (isZ (m := 8) rfl) (decide_eq_false (by omega))) ?_
  refine hcons (kIdxE (i := 4) (isX rfl) (isZ (m := 4) rfl) (denX rfl) rfl (by first | omega | (simp only [List.length_append, List.length_cons, List.length_nil, List.length_take, List.length_drop, List.length_replicate, Int.natCast_add] at *; omega)) rfl) ?_
  refine hcons (kConvF (isX rfl) tu3 (denX rfl) (fI64 (by omega) (by omega))) ?_
  refine hcons (kShlM 8 256 rfl (isX rfl) (isZ (m := 8) rfl) (denX rfl) rfl (by decide) (by omega) (fI64 (by omega) (by omega))) ?_
  refine hcons (kAdd (isZ (m := 8) rfl) (isX rfl) (denX rfl) (by omega) (fI64 (by omega) (by omega))) ?_
  refine hcons (kIdxE (i := 5) (isX rfl) (isZ (m := 5) rfl) (denX rfl) rfl (by first | omega | (simp only [List.length_append, List.length_cons, List.length_nil, List.length_take, List.length_drop, List.length_replicate, Int.natCast_add] at *; omega)) rfl) ?_
  refine hcons (kConvF (isX rfl) tu3 (denX rfl) (fI64 (by omega) (by omega))) ?_
  refine hcons (kAdd (isX rfl) (isX rfl) (denX rfl) (by omega) (fI64 (by omega) (by omega))) ?_
  refine hcons (kIdxE (i := 6) (isX rfl) (isZ (m := 6) rfl) (denX rfl) rfl (by first | omega | (simp only [List.length_append, List.length_cons, List.length_nil, List.length_take, List.length_drop, List.length_replicate, Int.natCast_add] at *; omega)) rfl) ?_
  refine hcons (kConvF (isX rfl) tu3 (denX rfl) (fI64 (by omega) (by omega))) ?_
  refine hcons (kAdd (isX rfl) (isX rfl) (denX rfl) (by omega) (fI64 (by omega) (by omega))) ?_
  refine hcons (kLt (isX rfl) (isX rfl) (decide_eq_true (by omega))) ?_
  refine hcons (kGt (isX rfl) (isZ (m := 0) rfl) (decide_eq_true (by omega))) ?_
  refine hcons (kMul (isX rfl) (isZ (m := 256) rfl) (denX rfl) (by omega) (fI64 (by omega) (by omega))) ?_
  refine hcons (kAdd (isX rfl) (isX rfl) (denX rfl) (by omega) (fI64 (by omega) (by omega))) ?_
  refine hcons (kAdd (isZ (m := 8) rfl) (isX rfl) (denX rfl) (by omega) (fI64 (by omega) (by omega))) ?_
  refine hcons (kAdd (isX rfl) (isX rfl) (denX rfl) (by omega) (fI64 (by omega) (by omega))) ?_
  refine hcons (kLt (isX rfl) (isX rfl) (decide_eq_true (by omega))) ?_
  refine hcons (kGe (isX rfl) (isZ (m := 1) rfl) (decide_eq_true (by omega))) ?_
  refine hcons (kLe (isX rfl) (isZ (m := 255) rfl) (decide_eq_false (by omega))) ?_
  refine hcons (kEqS (isX rfl) (isX rfl) (decide_eq_true rfl)) ?_
  refine hcons (kMax (isX rfl) (isZ (m := 0) rfl) (denX rfl) rfl) ?_
  refine hcons (kNeg (isX rfl) (denX rfl) (by omega) (fI64 (by omega) (by omega))) ?_
  refine hcons (kAndG 3 8 rfl (by decide) (isX rfl) (isZ (m := 7) rfl) (denX rfl) (fI64 (by omega) (by omega)) rfl rfl (fI64 (by omega) (by omega))) ?_
  refine hcons (kMax (isZ (m := 0) rfl) (isX rfl) (denX rfl) rfl) ?_
  refine hcons (kRem (isX rfl) (isZ (m := 8) rfl) (denX rfl) (by omega) (by omega) rfl) ?_
  refine hcons (kSub (isZ (m := 8) rfl) (isX rfl) (denX rfl) (by omega) (fI64 (by omega) (by omega))) ?_
  refine hcons (kRem (isX rfl) (isZ (m := 8) rfl) (denX rfl) (by omega) (by omega) rfl) ?_
  refine hcons (kEqI (isX rfl) (isX rfl) (decide_eq_true (by omega))) ?_
  exact hnil
theorem path18 (rt : Int) (ri : Int) (c : List UInt8) (rp : Int) (s : List UInt8) (n : Int) (b0 : -9223372036854775808 ≤ rt) (b1 : rt ≤ 9223372036854775807) (b2 : -9223372036854775808 ≤ ri) (b3 : ri ≤ 9223372036854775807) (b4 : c.length ≤ 9223372036854775807) (b5 : -9223372036854775808 ≤ rp) (b6 : rp ≤ 9223372036854775807) (b7 : s.length ≤ 9223372036854775807) (b8 : -9223372036854775808 ≤ n) (b9 : n ≤ 9223372036854775807) (h0 : ¬ (3000 < (s.length : Int))) (h1 : ¬ (70000 < (c.length : Int))) (h2 : ¬ ((s.length : Int) = 0)) (h3 : bt s 0 = 1) (h4 : ¬ ((s.length : Int) < 8)) (h5 : (s.length : Int) < (bt s 4) * 256 + (bt s 5) + (bt s 6) + 8) (h8 : 1 ≤ rt) (h9 : ¬ (rt ≤ 255)) (w : World) (hl : laidE w) : Calls Tryd.prog 5 #[.agg #[.int .i64 rt, .int .i64 ri, St' c, .int .i64 rp], St' s, .int .i64 n] w fun e w' => e = .returned (.bool true) ∧ Go.AX.Below w.heap.size w w' := by
  obtain ⟨fi, hfi, hb⟩ : ∃ fi, tabk.fn.get 5 = some fi ∧ fi.body.isSome = true := ⟨_, rfl, by kernel_rfl⟩
  exact runP (tb := tab18) ((tabkOk (nuL (nu18 rt ri c rp s n)) (one18 rt ri c rp s n)).hyps (hyOk18 rt ri c rp s n b0 b1 b2 b3 b4 b5 b6 b7 b8 b9 h0 h1 h2 h3 h4 h5 h8 h9)) rfl hfi hb (fun e => run18 e ) (args := [.agg #[.int .i64 rt, .int .i64 ri, St' c, .int .i64 rp], St' s, .int .i64 n]) (by simp only [RelL, Rel]; exact ⟨_, _, rfl, ⟨_, rfl, ⟨_, _, rfl, rfl, ⟨_, _, rfl, rfl, ⟨_, _, rfl, rfl, ⟨_, _, rfl, rfl, rfl⟩⟩⟩⟩⟩, ⟨_, _, rfl, rfl, ⟨_, _, rfl, rfl, rfl⟩⟩⟩) w hl
def hy19 : List (HK × AV) := [(.len (.x 4), .x 6),
  (.bin .gtr (.x 6) (.i .i64 (.ofNat 3000)), .b false),
  (.len (.x 2), .x 7),
  (.bin .gtr (.x 7) (.i .i64 (.ofNat 70000)), .b false),
  (.bin .neq (.x 4) (.s 0 0), .b false),
  (.bin .lss (.x 6) (.i .i64 (.ofNat 8)), .b true),
  (.bin .gtr (.x 6) (.i .i64 (.ofNat 0)), .b false),
  (.bin .geq (.x 0) (.i .i64 (.ofNat 1)), .b true),
  (.bin .leq (.x 0) (.i .i64 (.ofNat 255)), .b true),
  (.bin .geq (.x 1) (.i .i64 (.ofNat 0)), .b false),
  (.bin .eql (.x 4) (.x 4), .b true),
  (.mm true (.x 5) (.i .i64 (.ofNat 0)), .x 8),
  (.un .neg (.x 8), .x 9),
  (.bin .and (.x 9) (.i .i64 (.ofNat 7)), .x 10),
  (.mm true (.i .i64 (.ofNat 0)) (.x 5), .x 11),
  (.bin .rem (.x 11) (.i .i64 (.ofNat 8)), .x 12),
  (.bin .sub (.i .i64 (.ofNat 8)) (.x 12), .x 13),
  (.bin .rem (.x 13) (.i .i64 (.ofNat 8)), .x 14),
  (.bin .eql (.x 10) (.x 14), .b true)]
noncomputable def tab19 : Tab := { tabk with hyp := hy19 }
theorem run19 (e : Nat) : okB (call tab19 9000 5 [.ag [.x 0, .x 1, .x 2, .x 3], .x 4, .x 5] ⟨H0 e , 7, 0, 0⟩) = true := by kernel_rfl
def nu19 (rt : Int) (ri : Int) (c : List UInt8) (rp : Int) (s : List UInt8) (n : Int) : List Value := [.int .i64 (rt),
  .int .i64 (ri),
  St' c,
  .int .i64 (rp),
  St' s,
  .int .i64 (n),
  .int .i64 ((s.length : Int)),
  .int .i64 ((c.length : Int)),
  .int .i64 (max n 0),
  .int .i64 (-((max n 0))),
  .int .i64 ((-((max n 0))) % 8),
  .int .i64 (max 0 n),
  .int .i64 ((max 0 n) % 8),
  .int .i64 (8 - ((max 0 n) % 8)),
  .int .i64 ((8 - ((max 0 n) % 8)) % 8)]
theorem one19 (rt : Int) (ri : Int) (c : List UInt8) (rp : Int) (s : List UInt8) (n : Int) : ∀ j, (nuL (nu19 rt ri c rp s n) j).oneCell' = true := nuL_one (l := nu19 rt ri c rp s n) rfl
set_option maxHeartbeats 2000000 in
theorem hyOk19 (rt : Int) (ri : Int) (c : List UInt8) (rp : Int) (s : List UInt8) (n : Int) (b0 : -9223372036854775808 ≤ rt) (b1 : rt ≤ 9223372036854775807) (b2 : -9223372036854775808 ≤ ri) (b3 : ri ≤ 9223372036854775807) (b4 : c.length ≤ 9223372036854775807) (b5 : -9223372036854775808 ≤ rp) (b6 : rp ≤ 9223372036854775807) (b7 : s.length ≤ 9223372036854775807) (b8 : -9223372036854775808 ≤ n) (b9 : n ≤ 9223372036854775807) (h0 : ¬ (3000 < (s.length : Int))) (h1 : ¬ (70000 < (c.length : Int))) (h2 : (s.length : Int) = 0) (h5 : 1 ≤ rt) (h6 : rt ≤ 255) (h7 : ¬ (0 ≤ ri)) : ∀ k r, (k, r) ∈ hy19 → HOk (cx (nuL (nu19 rt ri c rp s n)) (one19 rt ri c rp s n) 1 laidE laidE_stab) k r := by
  unfold hy19
  refine hcons (kLenE (isX rfl) (denX rfl) (by first | omega | (simp only [List.length_append, List.length_cons, List.length_nil, List.length_take, List.length_drop, List.length_replicate, Int.natCast_add] at *; omega))) ?_
  refine hcons (kGt (isX rfl) (isZ (m := 3000) rfl) (decide_eq_false (by omega))) ?_
  refine hcons (kLenE (isX rfl) (denX rfl) (by first | omega | (simp only [List.length_append, List.length_cons, List.length_nil, List.length_take, List.length_drop, List.length_replicate, Int.natCast_add] at *; omega))) ?_
  refine hcons (kGt (isX rfl) (isZ (m := 70000) rfl) (decide_eq_false (by omega))) ?_
  refine hcons (kNeS (isX rfl) (isSx (l := ([] : List UInt8)) 0 0 rfl) (bnF (by first | exact nilT (by first | omega | (simp only [List.length_append, List.length_cons, List.length_nil, List.length_take, List.length_drop, List.length_replicate, Int.natCast_add] at *; omega)) | exact nilF (by first | omega | (simp only [List.length_append, List.length_cons, List.length_nil, List.length_take, List.length_drop, List.length_replicate, Int.natCast_add] at *; omega)) | exact nilT' (by first | omega | (simp only [List.length_append, List.length_cons, List.length_nil, List.length_take, List.length_drop, List.length_replicate, Int.natCast_add] at *; omega)) | exact nilF' (by first | omega | (simp only [List.length_append, List.length_cons, List.length_nil, List.length_take, List.length_drop, List.length_replicate, Int.natCast_add] at *; omega))))) ?_
  refine hcons (kLt (isX rfl) (isZ (m := 8) rfl) (decide_eq_true (by omega))) ?_
  refine hcons (kGt (isX rfl) (isZ (m := 0) rfl) (decide_eq_false (by omega))) ?_
  refine hcons (kGe (isX rfl) (isZ (m := 1) rfl) (decide_eq_true (by omega))) ?_
  refine hcons (kLe (isX rfl) (isZ (m := 255) rfl) (decide_eq_true (by omega))) ?_
  refine hcons (kGe (isX rfl) (isZ (m := 0) rfl) (decide_eq_false (by omega))) ?_
  refine hcons (kEqS (isX rfl) (isX rfl) (decide_eq_true rfl)) ?_
  refine hcons (kMax (isX rfl) (isZ (m := 0) rfl) (denX rfl) rfl) ?_
  refine hcons (kNeg (isX rfl) (denX rfl) (by omega) (fI64 (by omega) (by omega))) ?_
  refine hcons (kAndG 3 8 rfl (by decide) (isX rfl) (isZ (m := 7) rfl) (denX rfl) (fI64 (by omega) (by omega)) rfl rfl (fI64 (by omega) (by omega))) ?_
  refine hcons (kMax (isZ (m := 0) rfl) (isX rfl) (denX rfl) rfl) ?_
  refine hcons (kRem (isX rfl) (isZ (m := 8) rfl) (denX rfl) (by omega) (by omega) rfl) ?_
  refine hcons (kSub (isZ (m := 8) rfl) (isX rfl) (denX rfl) (by omega) (fI64 (by omega) (by omega))) ?_
  refine hcons (kRem (isX rfl) (isZ (m := 8) rfl) (denX rfl) (by omega) (by omega) rfl) ?_
  refine hcons (kEqI (isX rfl) (isX rfl) (decide_eq_true (by omega))) ?_
  exact hnil
theorem path19 (rt : Int) (ri : Int) (c : List UInt8) (rp : Int) (s : List UInt8) (n : Int) (b0 : -9223372036854775808 ≤ rt) (b1 : rt ≤ 9223372036854775807) (b2 : -9223372036854775808 ≤ ri) (b3 : ri ≤ 9223372036854775807) (b4 : c.length ≤ 9223372036854775807) (b5 : -9223372036854775808 ≤ rp) (b6 : rp ≤ 9223372036854775807) (b7 : s.length ≤ 9223372036854775807) (b8 : -9223372036854775808 ≤ n) (b9 : n ≤ 9223372036854775807) (h0 : ¬ (3000 < (s.length : Int))) (h1 : ¬ (70000 < (c.length : Int))) (h2 : (s.length : Int) = 0) (h5 : 1 ≤ rt) (h6 : rt ≤ 255) (h7 : ¬ (0 ≤ ri)) (w : World) (hl : laidE w) : Calls Tryd.prog 5 #[.agg #[.int .i64 rt, .int .i64 ri, St' c, .int .i64 rp], St' s, .int .i64 n] w fun e w' => e = .returned (.bool true) ∧ Go.AX.Below w.heap.size w w' := by
  obtain ⟨fi, hfi, hb⟩ : ∃ fi, tabk.fn.get 5 = some fi ∧ fi.body.isSome = true := ⟨_, rfl, by kernel_rfl⟩
  exact runP (tb := tab19) ((tabkOk (nuL (nu19 rt ri c rp s n)) (one19 rt ri c rp s n)).hyps (hyOk19 rt ri c rp s n b0 b1 b2 b3 b4 b5 b6 b7 b8 b9 h0 h1 h2 h5 h6 h7)) rfl hfi hb (fun e => run19 e ) (args := [.agg #[.int .i64 rt, .int .i64 ri, St' c, .int .i64 rp], St' s, .int .i64 n]) (by simp only [RelL, Rel]; exact ⟨_, _, rfl, ⟨_, rfl, ⟨_, _, rfl, rfl, ⟨_, _, rfl, rfl, ⟨_, _, rfl, rfl, ⟨_, _, rfl, rfl, rfl⟩⟩⟩⟩⟩, ⟨_, _, rfl, rfl, ⟨_, _, rfl, rfl, rfl⟩⟩⟩) w hl
def hy20 : List (HK × AV) := [(.len (.x 4), .x 6),
  (.bin .gtr (.x 6) (.i .i64 (.ofNat 3000)), .b false),
  (.len (.x 2), .x 7),
  (.bin .gtr (.x 7) (.i .i64 (.ofNat 70000)), .b false),
  (.bin .neq (.x 4) (.s 0 0), .b true),
  (.idx (.x 4) (.i .i64 (.ofNat 0)), .x 8),
  (.bin .neq (.x 8) (.i .u8 (.ofNat 1)), .b true),
  (.bin .gtr (.x 6) (.i .i64 (.ofNat 0)), .b true),
  (.bin .geq (.x 0) (.i .i64 (.ofNat 1)), .b true),
  (.bin .leq (.x 0) (.i .i64 (.ofNat 255)), .b true),
  (.bin .geq (.x 1) (.i .i64 (.ofNat 0)), .b false),
  (.bin .eql (.x 4) (.x 4), .b true),
  (.mm true (.x 5) (.i .i64 (.ofNat 0)), .x 9),
  (.un .neg (.x 9), .x 10),
  (.bin .and (.x 10) (.i .i64 (.ofNat 7)), .x 11),
  (.mm true (.i .i64 (.ofNat 0)) (.x 5), .x 12),
  (.bin .rem (.x 12) (.i .i64 (.ofNat 8)), .x 13),
  (.bin .sub (.i .i64 (.ofNat 8)) (.x 13), .x 14),
  (.bin .rem (.x 14) (.i .i64 (.ofNat 8)), .x 15),
  (.bin .eql (.x 11) (.x 15), .b true)]
noncomputable def tab20 : Tab := { tabk with hyp := hy20 }
theorem run20 (e : Nat) : okB (call tab20 9000 5 [.ag [.x 0, .x 1, .x 2, .x 3], .x 4, .x 5] ⟨H0 e , 7, 0, 0⟩) = true := by kernel_rfl
def nu20 (rt : Int) (ri : Int) (c : List UInt8) (rp : Int) (s : List UInt8) (n : Int) : List Value := [.int .i64 (rt),
  .int .i64 (ri),
  St' c,
  .int .i64 (rp),
  St' s,
  .int .i64 (n),
  .int .i64 ((s.length : Int)),
  .int .i64 ((c.length : Int)),
  .int .u8 (bt s 0),
  .int .i64 (max n 0),
  .int .i64 (-((max n 0))),
  .int .i64 ((-((max n 0))) % 8),
  .int .i64 (max 0 n),
  .int .i64 ((max 0 n) % 8),
  .int .i64 (8 - ((max 0 n) % 8)),
  .int .i64 ((8 - ((max 0 n) % 8)) % 8)]
theorem one20 (rt : Int) (ri : Int) (c : List UInt8) (rp : Int) (s : List UInt8) (n : Int) : ∀ j, (nuL (nu20 rt ri c rp s n) j).oneCell' = true := nuL_one (l := nu20 rt ri c rp s n) rfl
set_option maxHeartbeats 2000000 in
theorem hyOk20 (rt : Int) (ri : Int) (c : List UInt8) (rp : Int) (s : List UInt8) (n : Int) (b0 : -9223372036854775808 ≤ rt) (b1 : rt ≤ 9223372036854775807) (b2 : -9223372036854775808 ≤ ri) (b3 : ri ≤ 9223372036854775807) (b4 : c.length ≤ 9223372036854775807) (b5 : -9223372036854775808 ≤ rp) (b6 : rp ≤ 9223372036854775807) (b7 : s.length ≤ 9223372036854775807) (b8 : -9223372036854775808 ≤ n) (b9 : n ≤ 9223372036854775807) (h0 : ¬ (3000 < (s.length : Int))) (h1 : ¬ (70000 < (c.length : Int))) (h2 : ¬ ((s.length : Int) = 0)) (h3 : ¬ (bt s 0 = 1)) (h5 : 1 ≤ rt) (h6 : rt ≤ 255) (h7 : ¬ (0 ≤ ri)) : ∀ k r, (k, r) ∈ hy20 → HOk (cx (nuL (nu20 rt ri c rp s n)) (one20 rt ri c rp s n) 1 laidE laidE_stab) k r := by
  have := bt_lo s 0; have := bt_hi s 0
  unfold hy20
  refine hcons (kLenE (isX rfl) (denX rfl) (by first | omega | (simp only [List.length_append, List.length_cons, List.length_nil, List.length_take, List.length_drop, List.length_replicate, Int.natCast_add] at *; omega))) ?_
  refine hcons (kGt (isX rfl) (isZ (m := 3000) rfl) (decide_eq_false (by omega))) ?_
  refine hcons (kLenE (isX rfl) (denX rfl) (by first | omega | (simp only [List.length_append, List.length_cons, List.length_nil, List.length_take, List.length_drop, List.length_replicate, Int.natCast_add] at *; omega))) ?_
  refine hcons (kGt (isX rfl) (isZ (m := 70000) rfl) (decide_eq_false (by omega))) ?_
  refine hcons (kNeS (isX rfl) (isSx (l := ([] : List UInt8)) 0 0 rfl) (bnT (by first | exact nilT (by first | omega | (simp only [List.length_append, List.length_cons, List.length_nil, List.length_take, List.length_drop, List.length_replicate, Int.natCast_add] at *; omega)) | exact nilF (by first | omega | (simp only [List.length_append, List.length_cons, List.length_nil, List.length_take, List.length_drop, List.length_replicate, Int.natCast_add] at *; omega)) | exact nilT' (by first | omega | (simp only [List.length_append, List.length_cons, List.length_nil, List.length_take, List.length_drop, List.length_replicate, Int.natCast_add] at *; omega)) | exact nilF' (by first | omega | (simp only [List.length_append, List.length_cons, List.length_nil, List.length_take, List.length_drop, List.length_replicate, Int.natCast_add] at *; omega))))) ?_
  refine hcons (kIdxE (i := 0) (isX rfl) (isZ (m := 0) rfl) (denX rfl) rfl (by first | omega | (simp only [List.length_append, List.length_cons, List.length_nil, List.length_take, List.length_drop, List.length_replicate, Int.natCast_add] at *; omega)) rfl) ?_
  refine hcons (kNeI (isX rfl) (isZ (m := 1) rfl) (neT (by omega))) ?_
  refine hcons (kGt (isX rfl) (isZ (m := 0) rfl) (decide_eq_true (by omega))) ?_
  refine hcons (kGe (isX rfl) (isZ (m := 1) rfl) (decide_eq_true (by omega))) ?_
  refine hcons (kLe (isX rfl) (isZ (m := 255) rfl) (decide_eq_true (by omega))) ?_
  refine hcons (kGe (isX rfl) (isZ (m := 0) rfl) (decide_eq_false (by omega))) ?_
  refine hcons (kEqS (isX rfl) (isX rfl) (decide_eq_true rfl)) ?_
  refine hcons (kMax (isX rfl) (isZ (m := 0) rfl) (denX rfl) rfl) ?_
  refine hcons (kNeg (isX rfl) (denX rfl) (by omega) (fI64 (by omega) (by omega))) ?_
  refine hcons (kAndG 3 8 rfl (by decide) (isX rfl) (isZ (m := 7) rfl) (denX rfl) (fI64 (by omega) (by omega)) rfl rfl (fI64 (by omega) (by omega))) ?_
  refine hcons (kMax (isZ (m := 0) rfl) (isX rfl) (denX rfl) rfl) ?_
  refine hcons (kRem (isX rfl) (isZ (m := 8) rfl) (denX rfl) (by omega) (by omega) rfl) ?_
  refine hcons (kSub (isZ (m := 8) rfl) (isX rfl) (denX rfl) (by omega) (fI64 (by omega) (by omega))) ?_
  refine hcons (kRem (isX rfl) (isZ (m := 8) rfl) (denX rfl) (by omega) (by omega) rfl) ?_
  refine hcons (kEqI (isX rfl) (isX rfl) (decide_eq_true (by omega))) ?_
  exact hnil
theorem path20 (rt : Int) (ri : Int) (c : List UInt8) (rp : Int) (s : List UInt8) (n : Int) (b0 : -9223372036854775808 ≤ rt) (b1 : rt ≤ 9223372036854775807) (b2 : -9223372036854775808 ≤ ri) (b3 : ri ≤ 9223372036854775807) (b4 : c.length ≤ 9223372036854775807) (b5 : -9223372036854775808 ≤ rp) (b6 : rp ≤ 9223372036854775807) (b7 : s.length ≤ 9223372036854775807) (b8 : -9223372036854775808 ≤ n) (b9 : n ≤ 9223372036854775807) (h0 : ¬ (3000 < (s.length : Int))) (h1 : ¬ (70000 < (c.length : Int))) (h2 : ¬ ((s.length : Int) = 0)) (h3 : ¬ (bt s 0 = 1)) (h5 : 1 ≤ rt) (h6 : rt ≤ 255) (h7 : ¬ (0 ≤ ri)) (w : World) (hl : laidE w) : Calls Tryd.prog 5 #[.agg #[.int .i64 rt, .int .i64 ri, St' c, .int .i64 rp], St' s, .int .i64 n] w fun e w' => e = .returned (.bool true) ∧ Go.AX.Below w.heap.size w w' := by
  obtain ⟨fi, hfi, hb⟩ : ∃ fi, tabk.fn.get 5 = some fi ∧ fi.body.isSome = true := ⟨_, rfl, by kernel_rfl⟩
  exact runP (tb := tab20) ((tabkOk (nuL (nu20 rt ri c rp s n)) (one20 rt ri c rp s n)).hyps (hyOk20 rt ri c rp s n b0 b1 b2 b3 b4 b5 b6 b7 b8 b9 h0 h1 h2 h3 h5 h6 h7)) rfl hfi hb (fun e => run20 e ) (args := [.agg #[.int .i64 rt, .int .i64 ri, St' c, .int .i64 rp], St' s, .int .i64 n]) (by simp only [RelL, Rel]; exact ⟨_, _, rfl, ⟨_, rfl, ⟨_, _, rfl, rfl, ⟨_, _, rfl, rfl, ⟨_, _, rfl, rfl, ⟨_, _, rfl, rfl, rfl⟩⟩⟩⟩⟩, ⟨_, _, rfl, rfl, ⟨_, _, rfl, rfl, rfl⟩⟩⟩) w hl
def hy21 : List (HK × AV) := [(.len (.x 4), .x 6),
  (.bin .gtr (.x 6) (.i .i64 (.ofNat 3000)), .b false),
  (.len (.x 2), .x 7),
  (.bin .gtr (.x 7) (.i .i64 (.ofNat 70000)), .b false),
  (.bin .neq (.x 4) (.s 0 0), .b true),
  (.idx (.x 4) (.i .i64 (.ofNat 0)), .x 8),
  (.bin .neq (.x 8) (.i .u8 (.ofNat 1)), .b false),
  (.bin .lss (.x 6) (.i .i64 (.ofNat 8)), .b true),
  (.bin .gtr (.x 6) (.i .i64 (.ofNat 0)), .b true),
  (.bin .geq (.x 0) (.i .i64 (.ofNat 1)), .b true),
  (.bin .leq (.x 0) (.i .i64 (.ofNat 255)), .b true),
  (.bin .geq (.x 1) (.i .i64 (.ofNat 0)), .b false),
  (.bin .eql (.x 4) (.x 4), .b true),
  (.mm true (.x 5) (.i .i64 (.ofNat 0)), .x 9),
  (.un .neg (.x 9), .x 10),
  (.bin .and (.x 10) (.i .i64 (.ofNat 7)), .x 11),
  (.mm true (.i .i64 (.ofNat 0)) (.x 5), .x 12),
  (.bin .rem (.x 12) (.i .i64 (.ofNat 8)), .x 13),
  (.bin .sub (.i .i64 (.ofNat 8)) (.x 13), .x 14),
  (.bin .rem (.x 14) (.i .i64 (.ofNat 8)), .x 15),
  (.bin .eql (.x 11) (.x 15), .b true)]
noncomputable def tab21 : Tab := { tabk with hyp := hy21 }
theorem run21 (e : Nat) : okB (call tab21 9000 5 [.ag [.x 0, .x 1, .x 2, .x 3], .x 4, .x 5] ⟨H0 e , 7, 0, 0⟩) = true := by kernel_rfl
def nu21 (rt : Int) (ri : Int) (c : List UInt8) (rp : Int) (s : List UInt8) (n : Int) : List Value := [.int .i64 (rt),
  .int .i64 (ri),
  St' c,
  .int .i64 (rp),
  St' s,
  .int .i64 (n),
  .int .i64 ((s.length : Int)),
  .int .i64 ((c.length : Int)),
  .int .u8 (bt s 0),
  .int .i64 (max n 0),
  .int .i64 (-((max n 0))),
  .int .i64 ((-((max n 0))) % 8),
  .int .i64 (max 0 n),
  .int .i64 ((max 0 n) % 8),
  .int .i64 (8 - ((max 0 n) % 8)),
  .int .i64 ((8 - ((max 0 n) % 8)) % 8)]
theorem one21 (rt : Int) (ri : Int) (c : List UInt8) (rp : Int) (s : List UInt8) (n : Int) : ∀ j, (nuL (nu21 rt ri c rp s n) j).oneCell' = true := nuL_one (l := nu21 rt ri c rp s n) rfl
set_option maxHeartbeats 2000000 in
theorem hyOk21 (rt : Int) (ri : Int) (c : List UInt8) (rp : Int) (s : List UInt8) (n : Int) (b0 : -9223372036854775808 ≤ rt) (b1 : rt ≤ 9223372036854775807) (b2 : -9223372036854775808 ≤ ri) (b3 : ri ≤ 9223372036854775807) (b4 : c.length ≤ 9223372036854775807) (b5 : -9223372036854775808 ≤ rp) (b6 : rp ≤ 9223372036854775807) (b7 : s.length ≤ 9223372036854775807) (b8 : -9223372036854775808 ≤ n) (b9 : n ≤ 9223372036854775807) (h0 : ¬ (3000 < (s.length : Int))) (h1 : ¬ (70000 < (c.length : Int))) (h2 : ¬ ((s.length : Int) = 0)) (h3 : bt s 0 = 1) (h4 : (s.length : Int) < 8) (h6 : 1 ≤ rt) (h7 : rt ≤ 255) (h8 : ¬ (0 ≤ ri)) : ∀ k r, (k, r) ∈ hy21 → HOk (cx (nuL (nu21 rt ri c rp s n)) (one21 rt ri c rp s n) 1 laidE laidE_stab) k r := by
  have := bt_lo s 0; have := bt_hi s 0
  unfold hy21
  refine hcons (kLenE (isX rfl) (denX rfl) (by first | omega | (simp only [List.length_append, List.length_cons, List.length_nil, List.length_take, List.length_drop, List.length_replicate, Int.natCast_add] at *; omega))) ?_
  refine hcons (kGt (isX rfl) (isZ (m := 3000) rfl) (decide_eq_false (by omega))) ?_
  refine hcons (kLenE (isX rfl) (denX rfl) (by first | omega | (simp only [List.length_append, List.length_cons, List.length_nil, List.length_take, List.length_drop, List.length_replicate, Int.natCast_add] at *; omega))) ?_
  refine hcons (kGt (isX rfl) (isZ (m := 70000) rfl) (decide_eq_false (by omega))) ?_
  refine hcons (kNeS (isX rfl) (isSx (l := ([] : List UInt8)) 0 0 rfl) (bnT (by first | exact nilT (by first | omega | (simp only [List.length_append, List.length_cons, List.length_nil, List.length_take, List.length_drop, List.length_replicate, Int.natCast_add] at *; omega)) | exact nilF (by first | omega | (simp only [List.length_append, List.length_cons, List.length_nil, List.length_take, List.length_drop, List.length_replicate, Int.natCast_add] at *; omega)) | exact nilT' (by first | omega | (simp only [List.length_append, List.length_cons, List.length_nil, List.length_take, List.length_drop, List.length_replicate, Int.natCast_add] at *; omega)) | exact nilF' (by first | omega | (simp only [List.length_append, List.length_cons, List.length_nil, List.length_take, List.length_drop, List.length_replicate, Int.natCast_add] at *; omega))))) ?_
  refine hcons (kIdxE (i := 0) (isX rfl) (isZ (m := 0) rfl) (denX rfl) rfl (by first | omega | (simp only [List.length_append, List.length_cons, List.length_nil, List.length_take, List.length_drop, List.length_replicate, Int.natCast_add] at *; omega)) rfl) ?_
  refine hcons (kNeI (isX rfl) (isZ (m := 1) rfl) (neF (by omega))) ?_
  refine hcons (kLt (isX rfl) (isZ (m := 8) rfl) (decide_eq_true (by omega))) ?_
  refine hcons (kGt (isX rfl) (isZ (m := 0) rfl) (decide_eq_true (by omega))) ?_
  refine hcons (kGe (isX rfl) (isZ (m := 1) rfl) (decide_eq_true (by omega))) ?_
  refine hcons (kLe (isX rfl) (isZ (m := 255) rfl) (decide_eq_true (by omega))) ?_
  refine hcons (kGe (isX rfl) (isZ (m := 0) rfl) (decide_eq_false (by omega))) ?_
  refine hcons (kEqS (isX rfl) (isX rfl) (decide_eq_true rfl)) ?_
  refine hcons (kMax (isX rfl) (isZ (m := 0) rfl) (denX rfl) rfl) ?_
  refine hcons (kNeg (isX rfl) (denX rfl) (by omega) (fI64 (by omega) (by omega))) ?_
  refine hcons (kAndG 3 8 rfl (by decide) (isX rfl) (isZ (m := 7) rfl) (denX rfl) (fI64 (by omega) (by omega)) rfl rfl (fI64 (by omega) (by omega))) ?_
  refine hcons (kMax (isZ (m := 0) rfl) (isX rfl) (denX rfl) rfl) ?_
  refine hcons (kRem (isX rfl) (isZ (m := 8) rfl) (denX rfl) (by omega) (by omega) rfl) ?_
  refine hcons (kSub (isZ (m := 8) rfl) (isX rfl) (denX rfl) (by omega) (fI64 (by omega) (by omega))) ?_
  refine hcons (kRem (isX rfl) (isZ (m := 8) rfl) (denX rfl) (by omega) (by omega) rfl) ?_
  refine hcons (kEqI (isX rfl) (isX rfl) (decide_eq_true (by omega))) ?_
  exact hnil
theorem path21 (rt : Int) (ri : Int) (c : List UInt8) (rp : Int) (s : List UInt8) (n : Int) (b0 : -9223372036854775808 ≤ rt) (b1 : rt ≤ 9223372036854775807) (b2 : -9223372036854775808 ≤ ri) (b3 : ri ≤ 9223372036854775807) (b4 : c.length ≤ 9223372036854775807) (b5 : -9223372036854775808 ≤ rp) (b6 : rp ≤ 9223372036854775807) (b7 : s.length ≤ 9223372036854775807) (b8 : -9223372036854775808 ≤ n) (b9 : n ≤ 9223372036854775807) (h0 : ¬ (3000 < (s.length : Int))) (h1 : ¬ (70000 < (c.length : Int))) (h2 : ¬ ((s.length : Int) = 0)) (h3 : bt s 0 = 1) (h4 : (s.length : Int) < 8) (h6 : 1 ≤ rt) (h7 : rt ≤ 255) (h8 : ¬ (0 ≤ ri)) (w : World) (hl : laidE w) : Calls Tryd.prog 5 #[.agg #[.int .i64 rt, .int .i64 ri, St' c, .int .i64 rp], St' s, .int .i64 n] w fun e w' => e = .returned (.bool true) ∧ Go.AX.Below w.heap.size w w' := by
  obtain ⟨fi, hfi, hb⟩ : ∃ fi, tabk.fn.get 5 = some fi ∧ fi.body.isSome = true := ⟨_, rfl, by kernel_rfl⟩
  exact runP (tb := tab21) ((tabkOk (nuL (nu21 rt ri c rp s n)) (one21 rt ri c rp s n)).hyps (hyOk21 rt ri c rp s n b0 b1 b2 b3 b4 b5 b6 b7 b8 b9 h0 h1 h2 h3 h4 h6 h7 h8)) rfl hfi hb (fun e => run21 e ) (args := [.agg #[.int .i64 rt, .int .i64 ri, St' c, .int .i64 rp], St' s, .int .i64 n]) (by simp only [RelL, Rel]; exact ⟨_, _, rfl, ⟨_, rfl, ⟨_, _, rfl, rfl, ⟨_, _, rfl, rfl, ⟨_, _, rfl, rfl, ⟨_, _, rfl, rfl, rfl⟩⟩⟩⟩⟩, ⟨_, _, rfl, rfl, ⟨_, _, rfl, rfl, rfl⟩⟩⟩) w hl
def hy22 : List (HK × AV) := [(.len (.x 4), .x 6),
  (.bin .gtr (.x 6) (.i .i64 (.ofNat 3000)), .b false),
  (.len (.x 2), .x 7),
  (.bin .gtr (.x 7) (.i .i64 (.ofNat 70000)), .b false),
  (.bin .neq (.x 4) (.s 0 0), .b true),
  (.idx (.x 4) (.i .i64 (.ofNat 0)), .x 8),
  (.bin .neq (.x 8) (.i .u8 (.ofNat 1)), .b false),
  (.bin .lss (.x 6) (.i .i64 (.ofNat 8)), .b false),
  (.idx (.x 4) (.i .i64 (.ofNat 4)), .x 9),
  (.conv 3 (.x 9), .x 10),
  (.bin .shl (.x 10) (.i .u64 (.ofNat 8)), .x 11),
  (.bin .add (.i .i64 (.ofNat 8)) (.x 11), .x 12),
  (.idx (.x 4) (.i .i64 (.ofNat 5)), .x 13),
  (.conv 3 (.x 13), .x 14),
  (.bin .add (.x 12) (.x 14), .x 15),
  (.idx (.x 4) (.i .i64 (.ofNat 6)), .x 16),
  (.conv 3 (.x 16), .x 17),
  (.bin .add (.x 15) (.x 17), .x 18),
  (.bin .lss (.x 6) (.x 18), .b false),
  (.idx (.x 4) (.i .i64 (.ofNat 1)), .x 19),
  (.bin .eql (.x 19) (.i .u8 (.ofNat 0)), .b false),
  (.conv 3 (.x 19), .x 20),
  (.idx (.x 4) (.i .i64 (.ofNat 2)), .x 21),
  (.conv 3 (.x 21), .x 22),
  (.bin .shl (.x 22) (.i .u64 (.ofNat 8)), .x 23),
  (.idx (.x 4) (.i .i64 (.ofNat 3)), .x 24),
  (.conv 3 (.x 24), .x 25),
  (.bin .or (.x 23) (.x 25), .x 26),
  (.bin .sub (.x 18) (.x 17), .x 27),
  (.sub (.x 4) (some (.i .i64 (.ofNat 8))) (some (.x 27)), .x 28),
  (.sub (.x 4) (some (.x 18)) none, .x 29),
  (.bin .gtr (.x 6) (.i .i64 (.ofNat 0)), .b true),
  (.bin .mul (.x 10) (.i .i64 (.ofNat 256)), .x 30),
  (.bin .add (.x 30) (.x 14), .x 31),
  (.bin .add (.i .i64 (.ofNat 8)) (.x 31), .x 32),
  (.bin .add (.x 32) (.x 17), .x 33),
  (.bin .lss (.x 6) (.x 33), .b false),
  (.bin .mul (.x 22) (.i .i64 (.ofNat 256)), .x 34),
  (.bin .add (.x 34) (.x 25), .x 35),
  (.sub (.x 4) (some (.i .i64 (.ofNat 8))) (some (.x 32)), .x 36),
  (.sub (.x 4) (some (.x 33)) none, .x 37),
  (.bin .geq (.x 0) (.i .i64 (.ofNat 1)), .b true),
  (.bin .leq (.x 0) (.i .i64 (.ofNat 255)), .b true),
  (.bin .geq (.x 1) (.i .i64 (.ofNat 0)), .b false),
  (.eq 3 (.x 20) (.x 20), .b true),
  (.eq 3 (.x 26) (.x 35), .b true),
  (.eq 9 (.x 28) (.x 36), .b true),
  (.eq 3 (.x 17) (.x 17), .b true),
  (.bin .eql (.x 29) (.x 37), .b true),
  (.mm true (.x 5) (.i .i64 (.ofNat 0)), .x 38),
  (.un .neg (.x 38), .x 39),
  (.bin .and (.x 39) (.i .i64 (.ofNat 7)), .x 40),
  (.mm true (.i .i64 (.ofNat 0)) (.x 5), .x 41),
  (.bin .rem (.x 41) (.i .i64 (.ofNat 8)), .x 42),
  (.bin .sub (.i .i64 (.ofNat 8)) (.x 42), .x 43),
  (.bin .rem (.x 43) (.i .i64 (.ofNat 8)), .x 44),
  (.bin .eql (.x 40) (.x 44), .b true)]
noncomputable def tab22 : Tab := { tabk with hyp := hy22 }
theorem run22 (e : Nat) : okB (call tab22 9000 5 [.ag [.x 0, .x 1, .x 2, .x 3], .x 4, .x 5] ⟨H0 e , 7, 0, 0⟩) = true := by kernel_rfl
def nu22 (rt : Int) (ri : Int) (c : List UInt8) (rp : Int) (s : List UInt8) (n : Int) : List Value := [.int .i64 (rt),
  .int .i64 (ri),
  St' c,
  .int .i64 (rp),
  St' s,
  .int .i64 (n),
  .int .i64 ((s.length : Int)),
  .int .i64 ((c.length : Int)),
  .int .u8 (bt s 0),
  .int .u8 (bt s 4),
  .int .i64 ((bt s 4)),
  .int .i64 ((bt s 4) * 256),
  .int .i64 ((bt s 4) * 256 + 8),
  .int .u8 (bt s 5),
  .int .i64 ((bt s 5)),
  .int .i64 ((bt s 4) * 256 + (bt s 5) + 8),
  .int .u8 (bt s 6),
  .int .i64 ((bt s 6)),
  .int .i64 ((bt s 4) * 256 + (bt s 5) + (bt s 6) + 8),
  .int .u8 (bt s 1),
  .int .i64 ((bt s 1)),
  .int .u8 (bt s 2),
  .int .i64 ((bt s 2)),
  .int .i64 ((bt s 2) * 256),
  .int .u8 (bt s 3),
  .int .i64 ((bt s 3)),
  .int .i64 ((bt s 2) * 256 + (bt s 3)),
  .int .i64 ((bt s 4) * 256 + (bt s 5) + 8),
  St' ((List.take ((bt s 4) * 256 + (bt s 5) + 8 - (8)).toNat (List.drop (Int.toNat 8) s))),
  St' ((List.take ((s.length : Int) - ((bt s 4) * 256 + (bt s 5) + (bt s 6) + 8)).toNat (List.drop ((bt s 4) * 256 + (bt s 5) + (bt s 6) + 8).toNat s))),
  .int .i64 ((bt s 4) * 256),
  .int .i64 ((bt s 4) * 256 + (bt s 5)),
  .int .i64 ((bt s 4) * 256 + (bt s 5) + 8),
  .int .i64 ((bt s 4) * 256 + (bt s 5) + (bt s 6) + 8),
  .int .i64 ((bt s 2) * 256),
  .int .i64 ((bt s 2) * 256 + (bt s 3)),
  St' ((List.take ((bt s 4) * 256 + (bt s 5) + 8 - (8)).toNat (List.drop (Int.toNat 8) s))),
  St' ((List.take ((s.length : Int) - ((bt s 4) * 256 + (bt s 5) + (bt s 6) + 8)).toNat (List.drop ((bt s 4) * 256 + (bt s 5) + (bt s 6) + 8).toNat s))),
  .int .i64 (max n 0),
  .int .i64 (-((max n 0))),
  .int .i64 ((-((max n 0))) % 8),
  .int .i64 (max 0 n),
  .int .i64 ((max 0 n) % 8),
  .int .i64 (8 - ((max 0 n) % 8)),
  .int .i64 ((8 - ((max 0 n) % 8)) % 8)]
theorem one22 (rt : Int) (ri : Int) (c : List UInt8) (rp : Int) (s : List UInt8) (n : Int) : ∀ j, (nuL (nu22 rt ri c rp s n) j).oneCell' = true := nuL_one (l := nu22 rt ri c rp s n) rfl
set_option maxHeartbeats 2000000 in
theorem hyOk22 (rt : Int) (ri : Int) (c : List UInt8) (rp : Int) (s : List UInt8) (n : Int) (b0 : -9223372036854775808 ≤ rt) (b1 : rt ≤ 9223372036854775807) (b2 : -9223372036854775808 ≤ ri) (b3 : ri ≤ 9223372036854775807) (b4 : c.length ≤ 9223372036854775807) (b5 : -9223372036854775808 ≤ rp) (b6 : rp ≤ 9223372036854775807) (b7 : s.length ≤ 9223372036854775807) (b8 : -9223372036854775808 ≤ n) (b9 : n ≤ 9223372036854775807) (h0 : ¬ (3000 < (s.length : Int))) (h1 : ¬ (70000 < (c.length : Int))) (h2 : ¬ ((s.length : Int) = 0)) (h3 : bt s 0 = 1) (h4 : ¬ ((s.length : Int) < 8)) (h5 : ¬ ((s.length : Int) < (bt s 4) * 256 + (bt s 5) + (bt s 6) + 8)) (h6 : ¬ (bt s 1 = 0)) (h9 : 1 ≤ rt) (h10 : rt ≤ 255) (h11 : ¬ (0 ≤ ri)) : ∀ k r, (k, r) ∈ hy22 → HOk (cx (nuL (nu22 rt ri c rp s n)) (one22 rt ri c rp s n) 1 laidE laidE_stab) k r := by
  have := bt_lo s 0; have := bt_hi s 0
  have := bt_lo s 4; have := bt_hi s 4
  have := bt_lo s 5; have := bt_hi s 5
  have := bt_lo s 6; have := bt_hi s 6
  have := bt_lo s 1; have := bt_hi s 1
  have := bt_lo s 2; have := bt_hi s 2
  have := bt_lo s 3; have := bt_hi s 3
  unfold hy22
  refine hcons (kLenE (isX rfl) (denX rfl) (by first | omega | (simp only [List.length_append, List.length_cons, List.length_nil, List.length_take, List.length_drop, List.length_replicate, Int.natCast_add] at *; omega))) ?_
  refine hcons (kGt (isX rfl) (isZ (m := 3000) rfl) (decide_eq_false (by omega))) ?_
  refine hcons (kLenE (isX rfl) (denX rfl) (by first | omega | (simp only [List.length_append, List.length_cons, List.length_nil, List.length_take, List.length_drop, List.length_replicate, Int.natCast_add] at *; omega))) ?_
  refine hcons (kGt (isX rfl) (isZ (m := 70000) rfl) (decide_eq_false (by omega))) ?_
  refine hcons (kNeS (isX rfl) (isSx (l := ([] : List UInt8)) 0 0 rfl) (bnT (by first | exact nilT (by first | omega | (simp only [List.length_append, List.length_cons, List.length_nil, List.length_take, List.length_drop, List.length_replicate, Int.natCast_add] at *; omega)) | exact nilF (by first | omega | (simp only [List.length_append, List.length_cons, List.length_nil, List.length_take, List.length_drop, List.length_replicate, Int.natCast_add] at *; omega)) | exact nilT' (by first | omega | (simp only [List.length_append, List.length_cons, List.length_nil, List.length_take, List.length_drop, List.length_replicate, Int.natCast_add] at *; omega)) | exact nilF' (by first | omega | (simp only [List.length_append, List.length_cons, List.length_nil, List.length_take, List.length_drop, List.length_replicate, Int.natCast_add] at *; omega))))) ?_
  refine hcons (kIdxE (i := 0) (isX rfl) (isZ (m := 0) rfl) (denX rfl) rfl (by first | omega | (simp only [List.length_append, List.length_cons, List.length_nil, List.length_take, List.length_drop, List.length_replicate, Int.natCast_add] at *; omega)) rfl) ?_
  refine hcons (kNeI (isX rfl) (isZ (m := 1) rfl) (neF (by omega))) ?_
  refine hcons (kLt (isX rfl) (isZ (m := 8) rfl) (decide_eq_false (by omega))) ?_
  refine hcons (kIdxE (i := 4) (isX rfl) (isZ (m := 4) rfl) (denX rfl) rfl (by first | omega | (simp only [List.length_append, List.length_cons, List.length_nil, List.length_take, List.length_drop, List.length_replicate, Int.natCast_add] at *; omega)) rfl) ?_
  refine hcons (kConvF (isX rfl) tu3 (denX rfl) (fI64 (by omega) (by omega))) ?_
  refine hcons (kShlM 8 256 rfl (isX rfl) (isZ (m := 8) rfl) (denX rfl) rfl (by decide) (by omega) (fI64 (by omega) (by omega))) ?_
  refine hcons (kAdd (isZ (m := 8) rfl) (isX rfl) (denX rfl) (by omega) (fI64 (by omega) (by omega))) ?_
  refine hcons (kIdxE (i := 5) (isX rfl) (isZ (m := 5) rfl) (denX rfl) rfl (by first | omega | (simp only [List.length_append, List.length_cons, List.length_nil, List.length_take, List.length_drop, List.length_replicate, Int.natCast_add] at *; omega)) rfl) ?_
  refine hcons (kConvF (isX rfl) tu3 (denX rfl) (fI64 (by omega) (by omega))) ?_
  refine hcons (kAdd (isX rfl) (isX rfl) (denX rfl) (by omega) (fI64 (by omega) (by omega))) ?_
  refine hcons (kIdxE (i := 6) (isX rfl) (isZ (m := 6) rfl) (denX rfl) rfl (by first | omega | (simp only [List.length_append, List.length_cons, List.length_nil, List.length_take, List.length_drop, List.length_replicate, Int.natCast_add] at *; omega)) rfl) ?_
  refine hcons (kConvF (isX rfl) tu3 (denX rfl) (fI64 (by omega) (by omega))) ?_
  refine hcons (kAdd (isX rfl) (isX rfl) (denX rfl) (by omega) (fI64 (by omega) (by omega))) ?_
  refine hcons (kLt (isX rfl) (isX rfl) (decide_eq_false (by omega))) ?_
  refine hcons (kIdxE (i := 1) (isX rfl) (isZ (m := 1) rfl) (denX rfl) rfl (by first | omega | (simp only [List.length_append, List.length_cons, List.length_nil, List.length_take, List.length_drop, List.length_replicate, Int.natCast_add] at *; omega)) rfl) ?_
  refine hcons (kEqI (isX rfl) (isZ (m := 0) rfl) (decide_eq_false (by omega))) ?_
  refine hcons (kConvF (isX rfl) tu3 (denX rfl) (fI64 (by omega) (by omega))) ?_
  refine hcons (kIdxE (i := 2) (isX rfl) (isZ (m := 2) rfl) (denX rfl) rfl (by first | omega | (simp only [List.length_append, List.length_cons, List.length_nil, List.length_take, List.length_drop, List.length_replicate, Int.natCast_add] at *; omega)) rfl) ?_
  refine hcons (kConvF (isX rfl) tu3 (denX rfl) (fI64 (by omega) (by omega))) ?_
  refine hcons (kShlM 8 256 rfl (isX rfl) (isZ (m := 8) rfl) (denX rfl) rfl (by decide) (by omega) (fI64 (by omega) (by omega))) ?_
  refine hcons (kIdxE (i := 3) (isX rfl) (isZ (m := 3) rfl) (denX rfl) rfl (by first | omega | (simp only [List.length_append, List.length_cons, List.length_nil, List.length_take, List.length_drop, List.length_replicate, Int.natCast_add] at *; omega)) rfl) ?_
  refine hcons (kConvF (isX rfl) tu3 (denX rfl) (fI64 (by omega) (by omega))) ?_
  refine hcons (kOrM 8 256 rfl (isX rfl) (isX rfl) (denX rfl) (by omega) (by omega) (fI64 (by omega) (by omega)) (fI64 (by omega) (by omega)) (by omega) (by omega) (by omega) (fI64 (by omega) (by omega))) ?_
  refine hcons (kSub (isX rfl) (isX rfl) (denX rfl) (by omega) (fI64 (by omega) (by omega))) ?_
  refine hcons (kMid (P := 8) (Q := (bt s 4) * 256 + (bt s 5) + 8) (isX rfl) (.inr ⟨_, _, rfl, (isZ (m := 8) rfl)⟩) (.inr ⟨_, _, rfl, (isX rfl)⟩) (by first | omega | (simp only [List.length_append, List.length_cons, List.length_nil, List.length_take, List.length_drop, List.length_replicate, Int.natCast_add] at *; omega)) (by first | omega | (simp only [List.length_append, List.length_cons, List.length_nil, List.length_take, List.length_drop, List.length_replicate, Int.natCast_add] at *; omega)) (by first | omega | (simp only [List.length_append, List.length_cons, List.length_nil, List.length_take, List.length_drop, List.length_replicate, Int.natCast_add] at *; omega)) (denX rfl)) ?_
  refine hcons (kMid (P := (bt s 4) * 256 + (bt s 5) + (bt s 6) + 8) (Q := (s.length : Int)) (isX rfl) (.inr ⟨_, _, rfl, (isX rfl)⟩) (.inl ⟨rfl, by first | omega | (simp only [List.length_append, List.length_cons, List.length_nil, List.length_take, List.length_drop, List.length_replicate, Int.natCast_add] at *; omega)⟩) (by first | omega | (simp only [List.length_append, List.length_cons, List.length_nil, List.length_take, List.length_drop, List.length_replicate, Int.natCast_add] at *; omega)) (by first | omega | (simp only [List.length_append, List.length_cons, List.length_nil, List.length_take, List.length_drop, List.length_replicate, Int.natCast_add] at *; omega)) (by first | omega | (simp only [List.length_append, List.length_cons, List.length_nil, List.length_take, List.length_drop, List.length_replicate, Int.natCast_add] at *; omega)) (denX rfl)) ?_
  refine hcons (kGt (isX rfl) (isZ (m := 0) rfl) (decide_eq_true (by omega))) ?_
  refine hcons (kMul (isX rfl) (isZ (m := 256) rfl) (denX rfl) (by omega) (fI64 (by omega) (by omega))) ?_
  refine hcons (kAdd (isX rfl) (isX rfl) (denX rfl) (by omega) (fI64 (by omega) (by omega))) ?_
  refine hcons (kAdd (isZ (m := 8) rfl) (isX rfl) (denX rfl) (by omega) (fI64 (by omega) (by omega))) ?_
  refine hcons (kAdd (isX rfl) (isX rfl) (denX rfl) (by omega) (fI64 (by omega) (by omega))) ?_
  refine hcons (kLt (isX rfl) (isX rfl) (decide_eq_false (by omega))) ?_
  refine hcons (kMul (isX rfl) (isZ (m := 256) rfl) (denX rfl) (by omega) (fI64 (by omega) (by omega))) ?_
  refine hcons (kAdd (isX rfl) (isX rfl) (denX rfl) (by omega) (fI64 (by omega) (by omega))) ?_
  refine hcons (kMid (P := 8) (Q := (bt s 4) * 256 + (bt s 5) + 8) (isX rfl) (.inr ⟨_, _, rfl, (isZ (m := 8) rfl)⟩) (.inr ⟨_, _, rfl, (isX rfl)⟩) (by first | omega | (simp only [List.length_append, List.length_cons, List.length_nil, List.length_take, List.length_drop, List.length_replicate, Int.natCast_add] at *; omega)) (by first | omega | (simp only [List.length_append, List.length_cons, List.length_nil, List.length_take, List.length_drop, List.length_replicate, Int.natCast_add] at *; omega)) (by first | omega | (simp only [List.length_append, List.length_cons, List.length_nil, List.length_take, List.length_drop, List.length_replicate, Int.natCast_add] at *; omega)) (denX rfl)) ?_
  refine hcons (kMid (P := (bt s 4) * 256 + (bt s 5) + (bt s 6) + 8) (Q := (s.length : Int)) (isX rfl) (.inr ⟨_, _, rfl, (isX rfl)⟩) (.inl ⟨rfl, by first | omega | (simp only [List.length_append, List.length_cons, List.length_nil, List.length_take, List.length_drop, List.length_replicate, Int.natCast_add] at *; omega)⟩) (by first | omega | (simp only [List.length_append, List.length_cons, List.length_nil, List.length_take, List.length_drop, List.length_replicate, Int.natCast_add] at *; omega)) (by first | omega | (simp only [List.length_append, List.length_cons, List.length_nil, List.length_take, List.length_drop, List.length_replicate, Int.natCast_add] at *; omega)) (by first | omega | (simp only [List.length_append, List.length_cons, List.length_nil, List.length_take, List.length_drop, List.length_replicate, Int.natCast_add] at *; omega)) (denX rfl)) ?_
  refine hcons (kGe (isX rfl) (isZ (m := 1) rfl) (decide_eq_true (by omega))) ?_
  refine hcons (kLe (isX rfl) (isZ (m := 255) rfl) (decide_eq_true (by omega))) ?_
  refine hcons (kGe (isX rfl) (isZ (m := 0) rfl) (decide_eq_false (by omega))) ?_
  refine hcons (kEqT (isX rfl) (isX rfl) tu3 (decide_eq_true (by omega))) ?_
  refine hcons (kEqT (isX rfl) (isX rfl) tu3 (decide_eq_true (by omega))) ?_
  refine hcons (kEqTS (isX rfl) (isX rfl) tu9 (decide_eq_true rfl)) ?_
  refine hcons (kEqT (isX rfl) (isX rfl) tu3 (decide_eq_true (by omega))) ?_
  refine hcons (kEqS (isX rfl) (isX rfl) (decide_eq_true rfl)) ?_
  refine hcons (kMax (isX rfl) (isZ (m := 0) rfl) (denX rfl) rfl) ?_
  refine hcons (kNeg (isX rfl) (denX rfl) (by omega) (fI64 (by omega) (by omega))) ?_
  refine hcons (kAndG 3 8 rfl (by decide) (isX rfl) (isZ (m := 7) rfl) (denX rfl) (fI64 (by omega) (by omega)) rfl rfl (fI64 (by omega) (by omega))) ?_
  refine hcons (kMax (isZ (m := 0) rfl) (isX rfl) (denX rfl) rfl) ?_
  refine hcons (kRem (isX rfl) (isZ (m := 8) rfl) (denX rfl) (by omega) (by omega) rfl) ?_
  refine hcons (kSub (isZ (m := 8) rfl) (isX rfl) (denX rfl) (by omega) (fI64 (by omega) (by omega))) ?_
  refine hcons (kRem (isX rfl) (isZ (m := 8) rfl) (denX rfl) (by omega) (by omega) rfl) ?_
  refine hcons (kEqI (isX rfl) (isX rfl) (decide_eq_true (by omega))) ?_
  exact hnil
theorem path22 (rt : Int) (ri : Int) (c : List UInt8) (rp : Int) (s : List UInt8) (n : Int) (b0 : -9223372036854775808 ≤ rt) (b1 : rt ≤ 9223372036854775807) (b2 : -9223372036854775808 ≤ ri) (b3 : ri ≤ 9223372036854775807) (b4 : c.length ≤ 9223372036854775807) (b5 : -9223372036854775808 ≤ rp) (b6 : rp ≤ 9223372036854775807) (b7 : s.length ≤ 9223372036854775807) (b8 : -9223372036854775808 ≤ n) (b9 : n ≤ 9223372036854775807) (h0 : ¬ (3000 < (s.length : Int))) (h1 : ¬ (70000 < (c.length : Int))) (h2 : ¬ ((s.length : Int) = 0)) (h3 : bt s 0 = 1) (h4 : ¬ ((s.length : Int) < 8)) (h5 : ¬ ((s.length : Int) < (bt s 4) * 256 + (bt s 5) + (bt s 6) + 8)) (h6 : ¬ (bt s 1 = 0)) (h9 : 1 ≤ rt) (h10 : rt ≤ 255) (h11 : ¬ (0 ≤ ri)) (w : World) (hl : laidE w) : Calls Tryd.prog 5 #[.agg #[.int .i64 rt, .int .i64 ri, St' c, .int .i64 rp], St' s, .int .i64 n] w fun e w' => e = .returned (.bool true) ∧ Go.AX.Below w.heap.size w w' := by
  obtain ⟨fi, hfi, hb⟩ : ∃ fi, tabk.fn.get 5 = some fi ∧ fi.body.isSome = true := ⟨_, rfl, by kernel_rfl⟩
  exact runP (tb := tab22) ((tabkOk (nuL (nu22 rt ri c rp s n)) (one22 rt ri c rp s n)).hyps (hyOk22 rt ri c rp s n b0 b1 b2 b3 b4 b5 b6 b7 b8 b9 h0 h1 h2 h3 h4 h5 h6 h9 h10 h11)) rfl hfi hb (fun e => run22 e ) (args := [.agg #[.int .i64 rt, .int .i64 ri, St' c, .int .i64 rp], St' s, .int .i64 n]) (by simp only [RelL, Rel]; exact ⟨_, _, rfl, ⟨_, rfl, ⟨_, _, rfl, rfl, ⟨_, _, rfl, rfl, ⟨_, _, rfl, rfl, ⟨_, _, rfl, rfl, rfl⟩⟩⟩⟩⟩, ⟨_, _, rfl, rfl, ⟨_, _, rfl, rfl, rfl⟩⟩⟩) w hl
def hy23 : List (HK × AV) := [(.len (.x 4), .x 6),
  (.bin .gtr (.x 6) (.i .i64 (.ofNat 3000)), .b false),
  (.len (.x 2), .x 7),
  (.bin .gtr (.x 7) (.i .i64 (.ofNat 70000)), .b false),
  (.bin .neq (.x 4) (.s 0 0), .b true),
  (.idx (.x 4) (.i .i64 (.ofNat 0)), .x 8),
  (.bin .neq (.x 8) (.i .u8 (.ofNat 1)), .b false),
  (.bin .lss (.x 6) (.i .i64 (.ofNat 8)), .b false),
  (.idx (.x 4) (.i .i64 (.ofNat 4)), .x 9),
  (.conv 3 (.x 9), .x 10),
  (.bin .shl (.x 10) (.i .u64 (.ofNat 8)), .x 11),
  (.bin .add (.i .i64 (.ofNat 8)) (.x 11), .x 12),
  (.idx (.x 4) (.i .i64 (.ofNat 5)), .x 13),
  (.conv 3 (.x 13), .x 14),
  (.bin .add (.x 12) (.x 14), .x 15),
  (.idx (.x 4) (.i .i64 (.ofNat 6)), .x 16),
  (.conv 3 (.x 16), .x 17),
  (.bin .add (.x 15) (.x 17), .x 18),
  (.bin .lss (.x 6) (.x 18), .b false),
  (.idx (.x 4) (.i .i64 (.ofNat 1)), .x 19),
  (.bin .eql (.x 19) (.i .u8 (.ofNat 0)), .b true),
  (.bin .gtr (.x 6) (.i .i64 (.ofNat 0)), .b true),
  (.bin .mul (.x 10) (.i .i64 (.ofNat 256)), .x 20),
  (.bin .add (.x 20) (.x 14), .x 21),
  (.bin .add (.i .i64 (.ofNat 8)) (.x 21), .x 22),
  (.bin .add (.x 22) (.x 17), .x 23),
  (.bin .lss (.x 6) (.x 23), .b false),
  (.bin .geq (.x 0) (.i .i64 (.ofNat 1)), .b true),
  (.bin .leq (.x 0) (.i .i64 (.ofNat 255)), .b true),
  (.bin .geq (.x 1) (.i .i64 (.ofNat 0)), .b false),
  (.bin .eql (.x 4) (.x 4), .b true),
  (.mm true (.x 5) (.i .i64 (.ofNat 0)), .x 24),
  (.un .neg (.x 24), .x 25),
  (.bin .and (.x 25) (.i .i64 (.ofNat 7)), .x 26),
  (.mm true (.i .i64 (.ofNat 0)) (.x 5), .x 27),
  (.bin .rem (.x 27) (.i .i64 (.ofNat 8)), .x 28),
  (.bin .sub (.i .i64 (.ofNat 8)) (.x 28), .x 29),
  (.bin .rem (.x 29) (.i .i64 (.ofNat 8)), .x 30),
  (.bin .eql (.x 26) (.x 30), .b true)]
noncomputable def tab23 : Tab := { tabk with hyp := hy23 }
theorem run23 (e : Nat) : okB (call tab23 9000 5 [.ag [.x 0, .x 1, .x 2, .x 3], .x 4, .x 5] ⟨H0 e , 7, 0, 0⟩) = true := by kernel_rfl
def nu23 (rt : Int) (ri : Int) (c : List UInt8) (rp : Int) (s : List UInt8) (n : Int) : List Value := [.int .i64 (rt),
  .int .i64 (ri),
  St' c,
  .int .i64 (rp),
  St' s,
  .int .i64 (n),
  .int .i64 ((s.length : Int)),
  .int .i64 ((c.length : Int)),
  .int .u8 (bt s 0),
  .int .u8 (bt s 4),
  .int .i64 ((bt s 4)),
  .int .i64 ((bt s 4) * 256),
  .int .i64 ((bt s 4) * 256 + 8),
  .int .u8 (bt s 5),
  .int .i64 ((bt s 5)),
  .int .i64 ((bt s 4) * 256 + (bt s 5) + 8),
  .int .u8 (bt s 6),
  .int .i64 ((bt s 6)),
  .int .i64 ((bt s 4) * 256 + (bt s 5) + (bt s 6) + 8),
  .int .u8 (bt s 1),
  .int .i64 ((bt s 4) * 256),
  .int .i64 ((bt s 4) * 256 + (bt s 5)),
  .int .i64 ((bt s 4) * 256 + (bt s 5) + 8),
  .int .i64 ((bt s 4) * 256 + (bt s 5) + (bt s 6) + 8),
  .int .i64 (max n 0),
  .int .i64 (-((max n 0))),
  .int .i64 ((-((max n 0))) % 8),
  .int .i64 (max 0 n),
  .int .i64 ((max 0 n) % 8),
  .int .i64 (8 - ((max 0 n) % 8)),
  .int .i64 ((8 - ((max 0 n) % 8)) % 8)]
theorem one23 (rt : Int) (ri : Int) (c : List UInt8) (rp : Int) (s : List UInt8) (n : Int) : ∀ j, (nuL (nu23 rt ri c rp s n) j).oneCell' = true := nuL_one (l := nu23 rt ri c rp s n) rfl
set_option maxHeartbeats 2000000 in
theorem hyOk23 (rt : Int) (ri : Int) (c : List UInt8) (rp : Int) (s : List UInt8) (n : Int) (b0 : -9223372036854775808 ≤ rt) (b1 : rt ≤ 9223372036854775807) (b2 : -9223372036854775808 ≤ ri) (b3 : ri ≤ 9223372036854775807) (b4 : c.length ≤ 9223372036854775807) (b5 : -9223372036854775808 ≤ rp) (b6 : rp ≤ 9223372036854775807) (b7 : s.length ≤ 9223372036854775807) (b8 : -9223372036854775808 ≤ n) (b9 : n ≤ 9223372036854775807) (h0 : ¬ (3000 < (s.length : Int))) (h1 : ¬ (70000 < (c.length : Int))) (h2 : ¬ ((s.length : Int) = 0)) (h3 : bt s 0 = 1) (h4 : ¬ ((s.length : Int) < 8)) (h5 : ¬ ((s.length : Int) < (bt s 4) * 256 + (bt s 5) + (bt s 6) + 8)) (h6 : bt s 1 = 0) (h9 : 1 ≤ rt) (h10 : rt ≤ 255) (h11 : ¬ (0 ≤ ri)) : ∀ k r, (k, r) ∈ hy23 → HOk (cx (nuL (nu23 rt ri c rp s n)) (one23 rt ri c rp s n) 1 laidE laidE_stab) k r := by
  have := bt_lo s 0; have := bt_hi s 0
  have := bt_lo s 4; have := bt_hi s 4
  have := bt_lo s 5; have := bt_hi s 5
  have := bt_lo s 6; have := bt_hi s 6
  have := bt_lo s 1; have := bt_hi s 1
  unfold hy23
  refine hcons (kLenE (isX rfl) (denX rfl) (by first | omega | (simp only [List.length_append, List.length_cons, List.length_nil, List.length_take, List.length_drop, List.length_replicate, Int.natCast_add] at *; omega))) ?_
  refine hcons (kGt (isX rfl) (isZ (m := 3000) rfl) (decide_eq_false (by omega))) ?_
  refine hcons (kLenE (isX rfl) (denX rfl) (by first | omega | (simp only [List.length_append, List.length_cons, List.length_nil, List.length_take, List.length_drop, List.length_replicate, Int.natCast_add] at *; omega))) ?_
  refine hcons (kGt (isX rfl) (isZ (m := 70000) rfl) (decide_eq_false (by omega))) ?_
  refine hcons (kNeS (isX rfl) (isSx (l := ([] : List UInt8)) 0 0 rfl) (bnT (by first | exact nilT (by first | omega | (simp only [List.length_append, List.length_cons, List.length_nil, List.length_take, List.length_drop, List.length_replicate, Int.natCast_add] at *; omega)) | exact nilF (by first | omega | (simp only [List.length_append, List.length_cons, List.length_nil, List.length_take, List.length_drop, List.length_replicate, Int.natCast_add] at *; omega)) | exact nilT' (by first | omega | (simp only [List.length_append, List.length_cons, List.length_nil, List.length_take, List.length_drop, List.length_replicate, Int.natCast_add] at *; omega)) | exact nilF' (by first | omega | (simp only [List.length_append, List.length_cons, List.length_nil, List.length_take, List.length_drop, List.length_replicate, Int.natCast_add] at *; omega))))) ?_
  refine hcons (kIdxE (i := 0) (isX rfl) (isZ (m := 0) rfl) (denX rfl) rfl (by first | omega | (simp only [List.length_append, List.length_cons, List.length_nil, List.length_take, List.length_drop, List.length_replicate, Int.natCast_add] at *; omega)) rfl) ?_
  refine hcons (kNeI (isX rfl) (isZ (m := 1) rfl) (neF (by omega))) ?_
  refine hcons (kLt (isX rfl) (isZ (m := 8) rfl) (decide_eq_false (by omega))) ?_
  refine hcons (kIdxE (i := 4) (isX rfl) (isZ (m := 4) rfl) (denX rfl) rfl (by first | omega | (simp only [List.length_append, List.length_cons, List.length_nil, List.length_take, List.length_drop, List.length_replicate, Int.natCast_add] at *; omega)) rfl) ?_
  refine hcons (kConvF (isX rfl) tu3 (denX rfl) (fI64 (by omega) (by omega))) ?_
  refine hcons (kShlM 8 256 rfl (isX rfl) (isZ (m := 8) rfl) (denX rfl) rfl (by decide) (by omega) (fI64 (by omega) (by omega))) ?_
  refine hcons (kAdd (isZ (m := 8) rfl) (isX rfl) (denX rfl) (by omega) (fI64 (by omega) (by omega))) ?_
  refine hcons (kIdxE (i := 5) (isX rfl) (isZ (m := 5) rfl) (denX rfl) rfl (by first | omega | (simp only [List.length_append, List.length_cons, List.length_nil, List.length_take, List.length_drop, List.length_replicate, Int.natCast_add] at *; omega)) rfl) ?_
  refine hcons (kConvF (isX rfl) tu3 (denX rfl) (fI64 (by omega) (by omega))) ?_
  refine hcons (kAdd (isX rfl) (isX rfl) (denX rfl) (by omega) (fI64 (by omega) (by omega))) ?_
  refine hcons (kIdxE (i := 6) (isX rfl) (isZ (m := 6) rfl) (denX rfl) rfl (by first | omega | (simp only [List.length_append, List.length_cons, List.length_nil, List.length_take, List.length_drop, List.length_replicate, Int.natCast_add] at *; omega)) rfl) ?_
  refine hcons (kConvF (isX rfl) tu3 (denX rfl) (fI64 (by omega) (by omega))) ?_
  refine hcons (kAdd (isX rfl) (isX rfl) (denX rfl) (by omega) (fI64 (by omega) (by omega))) ?_
  refine hcons (kLt (isX rfl) (isX rfl) (decide_eq_false (by omega))) ?_
  refine hcons (kIdxE (i := 1) (isX rfl) (isZ (m := 1) rfl) (denX rfl) rfl (by first | omega | (simp only [List.length_append, List.length_cons, List.length_nil, List.length_take, List.length_drop, List.length_replicate, Int.natCast_add] at *; omega)) rfl) ?_
  refine hcons (kEqI (isX rfl) (isZ (m := 0) rfl) (decide_eq_true (by omega))) ?_
  refine hcons (kGt (isX rfl) (isZ (m := 0) rfl) (decide_eq_true (by omega))) ?_
  refine hcons (kMul (isX rfl) (isZ (m := 256) rfl) (denX rfl) (by omega) (fI64 (by omega) (by omega))) ?_
  refine hcons (kAdd (isX rfl) (isX rfl) (denX rfl) (by omega) (fI64 (by omega) (by omega))) ?_
  refine hcons (kAdd (isZ (m := 8) rfl) (isX rfl) (denX rfl) (by omega) (fI64 (by omega) (by omega))) ?_
  refine hcons (kAdd (isX rfl) (isX rfl) (denX rfl) (by omega) (fI64 (by omega) (by omega))) ?_
  refine hcons (kLt (isX rfl) (isX rfl) (decide_eq_false (by omega))) ?_
  refine hcons (kGe (isX rfl) (isZ (m := 1) rfl) (decide_eq_true (by omega))) ?_
  refine hcons (kLe (isX rfl) (isZ (m := 255) rfl) (decide_eq_true (by omega))) ?_
  refine hcons (kGe (isX rfl) (isZ (m := 0) rfl) (decide_eq_false (by omega))) ?_
  refine hcons (kEqS (isX rfl) (isX rfl) (decide_eq_true rfl)) ?_
  refine hcons (kMax (isX rfl) (isZ (m := 0) rfl) (denX rfl) rfl) ?_
  refine hcons (kNeg (isX rfl) (denX rfl) (by omega) (fI64 (by omega) (by omega))) ?_
  refine hcons (kAndG 3 8 rfl (by decide) (isX rfl) (isZ (m := 7) rfl) (denX rfl) (fI64 (by omega) (by omega)) rfl rfl (fI64 (by omega) (by omega))) ?_
  refine hcons (kMax (isZ (m := 0) rfl) (isX rfl) (denX rfl) rfl) ?_
  refine hcons (kRem (isX rfl) (isZ (m := 8) rfl) (denX rfl) (by omega) (by omega) rfl) ?_
  refine hcons (kSub (isZ (m := 8) rfl) (isX rfl) (denX rfl) (by omega) (fI64 (by omega) (by omega))) ?_
  refine hcons (kRem (isX rfl) (isZ (m := 8) rfl) (denX rfl) (by omega) (by omega) rfl) ?_
  refine hcons (kEqI (isX rfl) (isX rfl) (decide_eq_true (by omega))) ?_
  exact hnil
theorem path23 (rt : Int) (ri : Int) (c : List UInt8) (rp : Int) (s : List UInt8) (n : Int) (b0 : -9223372036854775808 ≤ rt) (b1 : rt ≤ 9223372036854775807) (b2 : -9223372036854775808 ≤ ri) (b3 : ri ≤ 9223372036854775807) (b4 : c.length ≤ 9223372036854775807) (b5 : -9223372036854775808 ≤ rp) (b6 : rp ≤ 9223372036854775807) (b7 : s.length ≤ 9223372036854775807) (b8 : -9223372036854775808 ≤ n) (b9 : n ≤ 9223372036854775807) (h0 : ¬ (3000 < (s.length : Int))) (h1 : ¬ (70000 < (c.length : Int))) (h2 : ¬ ((s.length : Int) = 0)) (h3 : bt s 0 = 1) (h4 : ¬ ((s.length : Int) < 8)) (h5 : ¬ ((s.length : Int) < (bt s 4) * 256 + (bt s 5) + (bt s 6) + 8)) (h6 : bt s 1 = 0) (h9 : 1 ≤ rt) (h10 : rt ≤ 255) (h11 : ¬ (0 ≤ ri)) (w : World) (hl : laidE w) : Calls Tryd.prog 5 #[.agg #[.int .i64 rt, .int .i64 ri, St' c, .int .i64 rp], St' s, .int .i64 n] w fun e w' => e = .returned (.bool true) ∧ Go.AX.Below w.heap.size w w' := by
  obtain ⟨fi, hfi, hb⟩ : ∃ fi, tabk.fn.get 5 = some fi ∧ fi.body.isSome = true := ⟨_, rfl, by kernel_rfl⟩
  exact runP (tb := tab23) ((tabkOk (nuL (nu23 rt ri c rp s n)) (one23 rt ri c rp s n)).hyps (hyOk23 rt ri c rp s n b0 b1 b2 b3 b4 b5 b6 b7 b8 b9 h0 h1 h2 h3 h4 h5 h6 h9 h10 h11)) rfl hfi hb (fun e => run23 e ) (args := [.agg #[.int .i64 rt, .int .i64 ri, St' c, .int .i64 rp], St' s, .int .i64 n]) (by simp only [RelL, Rel]; exact ⟨_, _, rfl, ⟨_, rfl, ⟨_, _, rfl, rfl, ⟨_, _, rfl, rfl, ⟨_, _, rfl, rfl, ⟨_, _, rfl, rfl, rfl⟩⟩⟩⟩⟩, ⟨_, _, rfl, rfl, ⟨_, _, rfl, rfl, rfl⟩⟩⟩) w hl
end Go.Proofs.YtejdkoheodambaaDoor.recordTells
