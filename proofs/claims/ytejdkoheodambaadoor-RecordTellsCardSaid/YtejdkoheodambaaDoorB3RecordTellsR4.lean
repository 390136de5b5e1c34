/- A part of the proof: an interpreter of the model's own code on partly known states, and that what it answers is what the program answers. No condition of its own. -/
import Derived.Test.YtejdkoheodambaaDoorB3RecordTellsO
set_option maxRecDepth 100000
set_option linter.unusedVariables false
set_option linter.unusedSimpArgs false
namespace Go.Proofs.YtejdkoheodambaaDoor.recordTells
open Go Go.AX Go.Proofs Go.Proofs.YtejdkoheodambaaDoor
def hy48 : List (HK × AV) := [(.len (.x 4), .x 6),
  (.bin .gtr (.x 6) (.i .i64 (.ofNat 3000)), .b false),
  (.len (.x 2), .x 7),
  (.bin .gtr (.x 7) (.i .i64 (.ofNat 70000)), .b false),
  (.bin .neq (.x 4) (.s 0 0), .b true),
  (.idx (.x 4) (.i .i64 (.ofNat 0)), .x 8),
  (.bin .neq (.x 8) (.i .u8 (.ofNat 1)), .b false),
  (.bin .lss (.x 6) (.i .i64 (.ofNat 8)), .b false),
  (.idx (.x 4) (.i .i64 (.ofNat 4)), .x 9),
  (.conv 3 (.x 9), .x 10),
  (.bin .shl (.x 10) (.i .u64 (.ofNat 8)), .x 11),
  (.bin .add (.i .i64 (.ofNat 8)) (.x 11), .x 12),
  (.idx (.x 4) (.i .i64 (.ofNat 5)), .x 13),
  (.conv 3 (.x 13), .x 14),
  (.bin .add (.x 12) (.x 14), .x 15),
  (.idx (.x 4) (.i .i64 (.ofNat 6)), .x 16),
  (.conv 3 (.x 16), .x 17),
  (.bin .add (.x 15) (.x 17), .x 18),
  (.bin .lss (.x 6) (.x 18), .b false),
  (.idx (.x 4) (.i .i64 (.ofNat 1)), .x 19),
  (.bin .eql (.x 19) (.i .u8 (.ofNat 0)), .b true),
  (.bin .gtr (.x 6) (.i .i64 (.ofNat 0)), .b true),
  (.bin .mul (.x 10) (.i .i64 (.ofNat 256)), .x 20),
  (.bin .add (.x 20) (.x 14), .x 21),
  (.bin .add (.i .i64 (.ofNat 8)) (.x 21), .x 22),
  (.bin .add (.x 22) (.x 17), .x 23),
  (.bin .lss (.x 6) (.x 23), .b false),
  (.bin .geq (.x 0) (.i .i64 (.ofNat 1)), .b true),
  (.bin .leq (.x 0) (.i .i64 (.ofNat 255)), .b true),
  (.bin .geq (.x 1) (.i .i64 (.ofNat 0)), .b true),
  (.bin .leq (.x 1) (.i .i64 (.ofNat 65535)), .b true),
  (.bin .leq (.x 7) (.i .i64 (.ofNat 65535)), .b true),
  (.bin .geq (.x 3) (.i .i64 (.ofNat 0)), .b true),
  (.bin .leq (.x 3) (.i .i64 (.ofNat 255)), .b false),
  (.bin .eql (.x 4) (.x 4), .b true),
  (.mm true (.x 5) (.i .i64 (.ofNat 0)), .x 24),
  (.un .neg (.x 24), .x 25),
  (.bin .and (.x 25) (.i .i64 (.ofNat 7)), .x 26),
  (.mm true (.i .i64 (.ofNat 0)) (.x 5), .x 27),
  (.bin .rem (.x 27) (.i .i64 (.ofNat 8)), .x 28),
  (.bin .sub (.i .i64 (.ofNat 8)) (.x 28), .x 29),
  (.bin .rem (.x 29) (.i .i64 (.ofNat 8)), .x 30),
  (.bin .eql (.x 26) (.x 30), .b true)]
noncomputable def tab48 : Tab := { tabk with hyp := hy48 }
theorem run48 (e : Nat) : okB (call tab48 9000 5 [.ag [.x 0, .x 1, .x 2, .x 3], .x 4, .x 5] ⟨H0 e , 7, 0, 0⟩) = true := by kernel_rfl
def nu48 (rt : Int) (ri : Int) (c : List UInt8) (rp : Int) (s : List UInt8) (n : Int) : List Value := [.int .i64 (rt),
  .int .i64 (ri),
  St' c,
  .int .i64 (rp),
  St' s,
  .int .i64 (n),
  .int .i64 ((s.length : Int)),
  .int .i64 ((c.length : Int)),
  .int .u8 (bt s 0),
  .int .u8 (bt s 4),
  .int .i64 ((bt s 4)),
  .int .i64 ((bt s 4) * 256),
  .int .i64 ((bt s 4) * 256 + 8),
  .int .u8 (bt s 5),
  .int .i64 ((bt s 5)),
  .int .i64 ((bt s 4) * 256 + (bt s 5) + 8),
  .int .u8 (bt s 6),
  .int .i64 ((bt s 6)),
  .int .i64 ((bt s 4) * 256 + (bt s 5) + (bt s 6) + 8),
  .int .u8 (bt s 1),
  .int .i64 ((bt s 4) * 256),
  .int .i64 ((bt s 4) * 256 + (bt s 5)),
  .int .i64 ((bt s 4) * 256 + (bt s 5) + 8),
  .int .i64 ((bt s 4) * 256 + (bt s 5) + (bt s 6) + 8),
  .int .i64 (max n 0),
  .int .i64 (-((max n 0))),
  .int .i64 ((-((max n 0))) % 8),
  .int .i64 (max 0 n),
  .int .i64 ((max 0 n) % 8),
  .int .i64 (8 - ((max 0 n) % 8)),
  .int .i64 ((8 - ((max 0 n) % 8)) % 8)]
theorem one48 (rt : Int) (ri : Int) (c : List UInt8) (rp : Int) (s : List UInt8) (n : Int) : ∀ j, (nuL (nu48 rt ri c rp s n) j).oneCell' = true := nuL_one (l := nu48 rt ri c rp s n) rfl
set_option maxHeartbeats 2000000 in
theorem hyOk48 (rt : Int) (ri : Int) (c : List UInt8) (rp : Int) (s : List UInt8) (n : Int) (b0 : -9223372036854775808 ≤ rt) (b1 : rt ≤ 9223372036854775807) (b2 : -9223372036854775808 ≤ ri) (b3 : ri ≤ 9223372036854775807) (b4 : c.length ≤ 9223372036854775807) (b5 : -9223372036854775808 ≤ rp) (b6 : rp ≤ 9223372036854775807) (b7 : s.length ≤ 9223372036854775807) (b8 : -9223372036854775808 ≤ n) (b9 : n ≤ 9223372036854775807) (h0 : ¬ (3000 < (s.length : Int))) (h1 : ¬ (70000 < (c.length : Int))) (h2 : ¬ ((s.length : Int) = 0)) (h3 : bt s 0 = 1) (h4 : ¬ ((s.length : Int) < 8)) (h5 : ¬ ((s.length : Int) < (bt s 4) * 256 + (bt s 5) + (bt s 6) + 8)) (h6 : bt s 1 = 0) (h9 : 1 ≤ rt) (h10 : rt ≤ 255) (h11 : 0 ≤ ri) (h12 : ri ≤ 65535) (h13 : (c.length : Int) ≤ 65535) (h14 : 0 ≤ rp) (h15 : ¬ (rp ≤ 255)) : ∀ k r, (k, r) ∈ hy48 → HOk (cx (nuL (nu48 rt ri c rp s n)) (one48 rt ri c rp s n) 1 laidE laidE_stab) k r := by
  have := bt_lo s 0; have := bt_hi s 0
  have := bt_lo s 4; have := bt_hi s 4
  have := bt_lo s 5; have := bt_hi s 5
  have := bt_lo s 6; have := bt_hi s 6
  have := bt_lo s 1; have := bt_hi s 1
  unfold hy48
  refine hcons (kLenE (isX rfl) (denX rfl) (by first | omega | (simp only [List.length_append, List.length_cons, List.length_nil, List.length_take, List.length_drop, List.length_replicate, Int.natCast_add] at *; omega))) ?_
  refine hcons (kGt (isX rfl) (isZ (m := 3000) rfl) (decide_eq_false (by omega))) ?_
  refine hcons (kLenE (isX rfl) (denX rfl) (by first | omega | (simp only [List.length_append, List.length_cons, List.length_nil, List.length_take, List.length_drop, List.length_replicate, Int.natCast_add] at *; omega))) ?_
  refine hcons (kGt (isX rfl) (isZ (m := 70000) rfl) (decide_eq_false (by omega))) ?_
  refine hcons (kNeS (isX rfl) (isSx (l := ([] : List UInt8)) 0 0 rfl) (bnT (by first | exact nilT (by first | omega | (simp only [List.length_append, List.length_cons, List.length_nil, List.length_take, List.length_drop, List.length_replicate, Int.natCast_add] at *; omega)) | exact nilF (by first | omega | (simp only [List.length_append, List.length_cons, List.length_nil, List.length_take, List.length_drop, List.length_replicate, Int.natCast_add] at *; omega)) | exact nilT' (by first | omega | (simp only [List.length_append, List.length_cons, List.length_nil, List.length_take, List.length_drop, List.length_replicate, Int.natCast_add] at *; omega)) | exact nilF' (by first | omega | (simp only [List.length_append, List.length_cons, List.length_nil, List.length_take, List.length_drop, List.length_replicate, Int.natCast_add] at *; omega))))) ?_
  refine hcons (kIdxE (i := 0) (isX rfl) (isZ (m := 0) rfl) (denX rfl) rfl (by first | omega | (simp only [List.length_append, List.length_cons, List.length_nil, List.length_take, List.length_drop, List.length_replicate, Int.natCast_add] at *; omega)) rfl) ?_
  refine hcons (kNeI (isX rfl) (isZ (m := 1) rfl) (neF (by omega))) ?_
  refine hcons (kLt (isX rfl) (isZ (m := 8) rfl) (decide_eq_false (by omega))) ?_
  refine hcons (kIdxE (i := 4) (isX rfl) (isZ (m := 4) rfl) (denX rfl) rfl (by first | omega | (simp only [List.length_append, List.length_cons, List.length_nil, List.length_take, List.length_drop, List.length_replicate, Int.natCast_add] at *; omega)) rfl) ?_
  refine hcons (kConvF (isX rfl) tu3 (denX rfl) (fI64 (by omega) (by omega))) ?_
  refine hcons (kShlM 8 256 rfl (isX rfl) (isZ (m := 8) rfl) (denX rfl) rfl (by decide) (by omega) (fI64 (by omega) (by omega))) ?_
  refine hcons (kAdd (isZ (m := 8) rfl) (isX rfl) (denX rfl) (by omega) (fI64 (by omega) (by omega))) ?_
  refine hcons (kIdxE (i := 5) (isX rfl) (isZ (m := 5) rfl) (denX rfl) rfl (by first | omega | (simp only [List.length_append, List.length_cons, List.length_nil, List.length_take, List.length_drop, List.length_replicate, Int.natCast_add] at *; omega)) rfl) ?_
  refine hcons (kConvF (isX rfl) tu3 (denX rfl) (fI64 (by omega) (by omega))) ?_
  refine hcons (kAdd (isX rfl) (isX rfl) (denX rfl) (by omega) (fI64 (by omega) (by omega))) ?_
  refine hcons (kIdxE (i := 6) (isX rfl) (isZ (m := 6) rfl) (denX rfl) rfl (by first | omega | (simp only [List.length_append, List.length_cons, List.length_nil, List.length_take, List.length_drop, List.length_replicate, Int.natCast_add] at *; omega)) rfl) ?_
  refine hcons (kConvF (isX rfl) tu3 (denX rfl) (fI64 (by omega) (by omega))) ?_
  refine hcons (kAdd (isX rfl) (isX rfl) (denX rfl) (by omega) (fI64 (by omega) (by omega))) ?_
  refine hcons (kLt (isX rfl) (isX rfl) (decide_eq_false (by omega))) ?_
  refine hcons (kIdxE (i := 1) (isX rfl) (isZ (m := 1) rfl) (denX rfl) rfl (by first | omega | (simp only [List.length_append, List.length_cons, List.length_nil, List.length_take, List.length_drop, List.length_replicate, Int.natCast_add] at *; omega)) rfl) ?_
  refine hcons (kEqI (isX rfl) (isZ (m := 0) rfl) (decide_eq_true (by omega))) ?_
  refine hcons (kGt (isX rfl) (isZ (m := 0) rfl) (decide_eq_true (by omega))) ?_
  refine hcons (kMul (isX rfl) (isZ (m := 256) rfl) (denX rfl) (by omega) (fI64 (by omega) (by omega))) ?_
  refine hcons (kAdd (isX rfl) (isX rfl) (denX rfl) (by omega) (fI64 (by omega) (by omega))) ?_
  refine hcons (kAdd (isZ (m := 8) rfl) (isX rfl) (denX rfl) (by omega) (fI64 (by omega) (by omega))) ?_
  refine hcons (kAdd (isX rfl) (isX rfl) (denX rfl) (by omega) (fI64 (by omega) (by omega))) ?_
  refine hcons (kLt (isX rfl) (isX rfl) (decide_eq_false (by omega))) ?_
  refine hcons (kGe (isX rfl) (isZ (m := 1) rfl) (decide_eq_true (by omega))) ?_
  refine hcons (kLe (isX rfl) (isZ (m := 255) rfl) (decide_eq_true (by omega))) ?_
  refine hcons (kGe (isX rfl) (isZ (m := 0) rfl) (decide_eq_true (by omega))) ?_
  refine hcons (kLe (isX rfl) (isZ (m := 65535) rfl) (decide_eq_true (by omega))) ?_
  refine hcons (kLe (isX rfl) (isZ (m := 65535) rfl) (decide_eq_true (by omega))) ?_
  refine hcons (kGe (isX rfl) (isZ (m := 0) rfl) (decide_eq_true (by omega))) ?_
  refine hcons (kLe (isX rfl) (isZ (m := 255) rfl) (decide_eq_false (by omega))) ?_
  refine hcons (kEqS (isX rfl) (isX rfl) (decide_eq_true rfl)) ?_
  refine hcons (kMax (isX rfl) (isZ (m := 0) rfl) (denX rfl) rfl) ?_
  refine hcons (kNeg (isX rfl) (denX rfl) (by omega) (fI64 (by omega) (by omega))) ?_
  refine hcons (kAndG 3 8 rfl (by decide) (isX rfl) (isZ (m := 7) rfl) (denX rfl) (fI64 (by omega) (by omega)) rfl rfl (fI64 (by omega) (by omega))) ?_
  refine hcons (kMax (isZ (m := 0) rfl) (isX rfl) (denX rfl) rfl) ?_
  refine hcons (kRem (isX rfl) (isZ (m := 8) rfl) (denX rfl) (by omega) (by omega) rfl) ?_
  refine hcons (kSub (isZ (m := 8) rfl) (isX rfl) (denX rfl) (by omega) (fI64 (by omega) (by omega))) ?_
  refine hcons (kRem (isX rfl) (isZ (m := 8) rfl) (denX rfl) (by omega) (by omega) rfl) ?_
  refine hcons (kEqI (isX rfl) (isX rfl) (decide_eq_true (by omega))) ?_
  exact hnil
theorem path48 (rt : Int) (ri : Int) (c : List UInt8) (rp : Int) (s : List UInt8) (n : Int) (b0 : -9223372036854775808 ≤ rt) (b1 : rt ≤ 9223372036854775807) (b2 : -9223372036854775808 ≤ ri) (b3 : ri ≤ 9223372036854775807) (b4 : c.length ≤ 9223372036854775807) (b5 : -9223372036854775808 ≤ rp) (b6 : rp ≤ 9223372036854775807) (b7 : s.length ≤ 9223372036854775807) (b8 : -9223372036854775808 ≤ n) (b9 : n ≤ 9223372036854775807) (h0 : ¬ (3000 < (s.length : Int))) (h1 : ¬ (70000 < (c.length : Int))) (h2 : ¬ ((s.length : Int) = 0)) (h3 : bt s 0 = 1) (h4 : ¬ ((s.length : Int) < 8)) (h5 : ¬ ((s.length : Int) < (bt s 4) * 256 + (bt s 5) + (bt s 6) + 8)) (h6 : bt s 1 = 0) (h9 : 1 ≤ rt) (h10 : rt ≤ 255) (h11 : 0 ≤ ri) (h12 : ri ≤ 65535) (h13 : (c.length : Int) ≤ 65535) (h14 : 0 ≤ rp) (h15 : ¬ (rp ≤ 255)) (w : World) (hl : laidE w) : Calls Tryd.prog 5 #[.agg #[.int .i64 rt, .int .i64 ri, St' c, .int .i64 rp], St' s, .int .i64 n] w fun e w' => e = .returned (.bool true) ∧ Go.AX.Below w.heap.size w w' := by
  obtain ⟨fi, hfi, hb⟩ : ∃ fi, tabk.fn.get 5 = some fi ∧ fi.body.isSome = true := ⟨_, rfl, by kernel_rfl⟩
  exact runP (tb := tab48) ((tabkOk (nuL (nu48 rt ri c rp s n)) (one48 rt ri c rp s n)).hyps (hyOk48 rt ri c rp s n b0 b1 b2 b3 b4 b5 b6 b7 b8 b9 h0 h1 h2 h3 h4 h5 h6 h9 h10 h11 h12 h13 h14 h15)) rfl hfi hb (fun e => run48 e ) (args := [.agg #[.int .i64 rt, .int .i64 ri, St' c, .int .i64 rp], St' s, .int .i64 n]) (by simp only [RelL, Rel]; exact ⟨_, _, rfl, ⟨_, rfl, ⟨_, _, rfl, rfl, ⟨_, _, rfl, rfl, ⟨_, _, rfl, rfl, ⟨_, _, rfl, rfl, rfl⟩⟩⟩⟩⟩, ⟨_, _, rfl, rfl, ⟨_, _, rfl, rfl, rfl⟩⟩⟩) w hl
def hy49 : List (HK × AV) := [(.len (.x 4), .x 6),
  (.bin .gtr (.x 6) (.i .i64 (.ofNat 3000)), .b false),
  (.len (.x 2), .x 7),
  (.bin .gtr (.x 7) (.i .i64 (.ofNat 70000)), .b false),
  (.bin .neq (.x 4) (.s 0 0), .b true),
  (.idx (.x 4) (.i .i64 (.ofNat 0)), .x 8),
  (.bin .neq (.x 8) (.i .u8 (.ofNat 1)), .b false),
  (.bin .lss (.x 6) (.i .i64 (.ofNat 8)), .b false),
  (.idx (.x 4) (.i .i64 (.ofNat 4)), .x 9),
  (.conv 3 (.x 9), .x 10),
  (.bin .shl (.x 10) (.i .u64 (.ofNat 8)), .x 11),
  (.bin .add (.i .i64 (.ofNat 8)) (.x 11), .x 12),
  (.idx (.x 4) (.i .i64 (.ofNat 5)), .x 13),
  (.conv 3 (.x 13), .x 14),
  (.bin .add (.x 12) (.x 14), .x 15),
  (.idx (.x 4) (.i .i64 (.ofNat 6)), .x 16),
  (.conv 3 (.x 16), .x 17),
  (.bin .add (.x 15) (.x 17), .x 18),
  (.bin .lss (.x 6) (.x 18), .b true),
  (.bin .gtr (.x 6) (.i .i64 (.ofNat 0)), .b true),
  (.bin .mul (.x 10) (.i .i64 (.ofNat 256)), .x 19),
  (.bin .add (.x 19) (.x 14), .x 20),
  (.bin .add (.i .i64 (.ofNat 8)) (.x 20), .x 21),
  (.bin .add (.x 21) (.x 17), .x 22),
  (.bin .lss (.x 6) (.x 22), .b true),
  (.bin .geq (.x 0) (.i .i64 (.ofNat 1)), .b true),
  (.bin .leq (.x 0) (.i .i64 (.ofNat 255)), .b true),
  (.bin .geq (.x 1) (.i .i64 (.ofNat 0)), .b true),
  (.bin .leq (.x 1) (.i .i64 (.ofNat 65535)), .b true),
  (.bin .leq (.x 7) (.i .i64 (.ofNat 65535)), .b true),
  (.bin .geq (.x 3) (.i .i64 (.ofNat 0)), .b true),
  (.bin .leq (.x 3) (.i .i64 (.ofNat 255)), .b false),
  (.bin .eql (.x 4) (.x 4), .b true),
  (.mm true (.x 5) (.i .i64 (.ofNat 0)), .x 23),
  (.un .neg (.x 23), .x 24),
  (.bin .and (.x 24) (.i .i64 (.ofNat 7)), .x 25),
  (.mm true (.i .i64 (.ofNat 0)) (.x 5), .x 26),
  (.bin .rem (.x 26) (.i .i64 (.ofNat 8)), .x 27),
  (.bin .sub (.i .i64 (.ofNat 8)) (.x 27), .x 28),
  (.bin .rem (.x 28) (.i .i64 (.ofNat 8)), .x 29),
  (.bin .eql (.x 25) (.x 29), .b true)]
noncomputable def tab49 : Tab := { tabk with hyp := hy49 }
theorem run49 (e : Nat) : okB (call tab49 9000 5 [.ag [.x 0, .x 1, .x 2, .x 3], .x 4, .x 5] ⟨H0 e , 7, 0, 0⟩) = true := by kernel_rfl
def nu49 (rt : Int) (ri : Int) (c : List UInt8) (rp : Int) (s : List UInt8) (n : Int) : List Value := [.int .i64 (rt),
  .int .i64 (ri),
  St' c,
  .int .i64 (rp),
  St' s,
  .int .i64 (n),
  .int .i64 ((s.length : Int)),
  .int .i64 ((c.length : Int)),
  .int .u8 (bt s 0),
  .int .u8 (bt s 4),
  .int .i64 ((bt s 4)),
  .int .i64 ((bt s 4) * 256),
  .int .i64 ((bt s 4) * 256 + 8),
  .int .u8 (bt s 5),
  .int .i64 ((bt s 5)),
  .int .i64 ((bt s 4) * 256 + (bt s 5) + 8),
  .int .u8 (bt s 6),
  .int .i64 ((bt s 6)),
  .int .i64 ((bt s 4) * 256 + (bt s 5) + (bt s 6) + 8),
  .int .i64 ((bt s 4) * 256),
  .int .i64 ((bt s 4) * 256 + (bt s 5)),
  .int .i64 ((bt s 4) * 256 + (bt s 5) + 8),
  .int .i64 ((bt s 4) * 256 + (bt s 5) + (bt s 6) + 8),
  .int .i64 (max n 0),
  .int .i64 (-((max n 0))),
  .int .i64 ((-((max n 0))) % 8),
  .int .i64 (max 0 n),
  .int .i64 ((max 0 n) % 8),
  .int .i64 (8 - ((max 0 n) % 8)),
  .int .i64 ((8 - ((max 0 n) % 8)) % 8)]
theorem one49 (rt : Int) (ri : Int) (c : List UInt8) (rp : Int) (s : List UInt8) (n : Int) : ∀ j, (nuL (nu49 rt ri c rp s n) j).oneCell' = true := nuL_one (l := nu49 rt ri c rp s n) rfl
set_option maxHeartbeats 2000000 in
theorem hyOk49 (rt : Int) (ri : Int) (c : List UInt8) (rp : Int) (s : List UInt8) (n : Int) (b0 : -9223372036854775808 ≤ rt) (b1 : rt ≤ 9223372036854775807) (b2 : -9223372036854775808 ≤ ri) (b3 : ri ≤ 9223372036854775807) (b4 : c.length ≤ 9223372036854775807) (b5 : -9223372036854775808 ≤ rp) (b6 : rp ≤ 9223372036854775807) (b7 : s.length ≤ 9223372036854775807) (b8 : -9223372036854775808 ≤ n) (b9 : n ≤ 9223372036854775807) (h0 : ¬ (3000 < (s.length : Int))) (h1 : ¬ (70000 < (c.length : Int))) (h2 : ¬ ((s.length : Int) = 0)) (h3 : bt s 0 = 1) (h4 : ¬ ((s.length : Int) < 8)) (h5 : (s.length : Int) < (bt s 4) * 256 + (bt s 5) + (bt s 6) + 8) (h8 : 1 ≤ rt) (h9 : rt ≤ 255) (h10 : 0 ≤ ri) (h11 : ri ≤ 65535) (h12 : (c.length : Int) ≤ 65535) (h13 : 0 ≤ rp) (h14 : ¬ (rp ≤ 255)) : ∀ k r, (k, r) ∈ hy49 → HOk (cx (nuL (nu49 rt ri c rp s n)) (one49 rt ri c rp s n) 1 laidE laidE_stab) k r := by
  have := bt_lo s 0; have := bt_hi s 0
  have := bt_lo s 4; have := bt_hi s 4
  have := bt_lo s 5; have := bt_hi s 5
  have := bt_lo s 6; have := bt_hi s 6
  unfold hy49
  refine hcons (kLenE (isX rfl) (denX rfl) (by first | omega | (simp only [List.length_append, List.length_cons, List.length_nil, List.length_take, List.length_drop, List.length_replicate, Int.natCast_add] at *; omega))) ?_
  refine hcons (kGt (isX rfl) (isZ (m := 3000) rfl) (decide_eq_false (by omega))) ?_
  refine hcons (kLenE (isX rfl) (denX rfl) (by first | omega | (simp only [List.length_append, List.length_cons, List.length_nil, List.length_take, List.length_drop, List.length_replicate, Int.natCast_add] at *; omega))) ?_
  refine hcons (kGt (isX rfl) (isZ (m := 70000) rfl) (decide_eq_false (by omega))) ?_
  refine hcons (kNeS (isX rfl) (isSx (l := ([] : List UInt8)) 0 0 rfl) (bnT (by first | exact nilT (by first | omega | (simp only [List.length_append, List.length_cons, List.length_nil, List.length_take, List.length_drop, List.length_replicate, Int.natCast_add] at *; omega)) | exact nilF (by first | omega | (simp only [List.length_append, List.length_cons, List.length_nil, List.length_take, List.length_drop, List.length_replicate, Int.natCast_add] at *; omega)) | exact nilT' (by first | omega | (simp only [List.length_append, List.length_cons, List.length_nil, List.length_take, List.length_drop, List.length_replicate, Int.natCast_add] at *; omega)) | exact nilF' (by first | omega | (simp only [List.length_append, List.length_cons, List.length_nil, List.length_take, List.length_drop, List.length_replicate, Int.natCast_add] at *; omega))))) ?_
  refine hcons (kIdxE (i := 0) (isX rfl) (isZ (m := 0) rfl) (denX rfl) rfl (by first | omega | (simp only [List.length_append, List.length_cons, List.length_nil, List.length_take, List.length_drop, List.length_replicate, Int.natCast_add] at *; omega)) rfl) ?_
  refine hcons (kNeI (isX rfl) (isZ (m := 1) rfl) (neF (by omega))) ?_
  refine hcons (kLt (isX rfl) (isZ (m := 8) rfl) (decide_eq_false (by omega))) ?_
  refine hcons (kIdxE (i := 4) (isX rfl) (isZ (m := 4) rfl) (denX rfl) rfl (by first | omega | (simp only [List.length_append, List.length_cons, List.length_nil, List.length_take, List.length_drop, List.length_replicate, Int.natCast_add] at *; omega)) rfl) ?_
  refine hcons (kConvF (isX rfl) tu3 (denX rfl) (fI64 (by omega) (by omega))) ?_
  refine hcons (kShlM 8 256 rfl (isX rfl) (isZ (m := 8) rfl) (denX rfl) rfl (by decide) (by omega) (fI64 (by omega) (by omega))) ?_
  refine hcons (kAdd (isZ (m := 8) rfl) (isX rfl) (denX rfl) (by omega) (fI64 (by omega) (by omega))) ?_
  refine hcons (kIdxE (i := 5) (isX rfl) (isZ (m := 5) rfl) (denX rfl) rfl (by first | omega | (simp only [List.length_append, List.length_cons, List.length_nil, List.length_take, List.length_drop, List.length_replicate, Int.natCast_add] at *; omega)) rfl) ?_
  refine hcons (kConvF (isX rfl) tu3 (denX rfl) (fI64 (by omega) (by omega))) ?_
  refine hcons (kAdd (isX rfl) (isX rfl) (denX rfl) (by omega) (fI64 (by omega) (by omega))) ?_
  refine hcons (kIdxE (i := 6) (isX rfl) (isZ (m := 6) rfl) (denX rfl) rfl (by first | omega | (simp only [List.length_append, List.length_cons, List.length_nil, List.length_take, List.length_drop, List.length_replicate, Int.natCast_add] at *; omega)) rfl) ?_
  refine hcons (kConvF (isX rfl) tu3 (denX rfl) (fI64 (by omega) (by omega))) ?_
  refine hcons (kAdd (isX rfl) (isX rfl) (denX rfl) (by omega) (fI64 (by omega) (by omega))) ?_
  refine hcons (kLt (isX rfl) (isX rfl) (decide_eq_true (by omega))) ?_
  refine hcons (kGt (isX rfl) (isZ (m := 0) rfl) (decide_eq_true (by omega))) ?_
  refine hcons (kMul (isX rfl) (isZ (m := 256) rfl) (denX rfl) (by omega) (fI64 (by omega) (by omega))) ?_
  refine hcons (kAdd (isX rfl) (isX rfl) (denX rfl) (by omega) (fI64 (by omega) (by omega))) ?_
  refine hcons (kAdd (isZ (m := 8) rfl) (isX rfl) (denX rfl) (by omega) (fI64 (by omega) (by omega))) ?_
  refine hcons (kAdd (isX rfl) (isX rfl) (denX rfl) (by omega) (fI64 (by omega) (by omega))) ?_
  refine hcons (kLt (isX rfl) (isX rfl) (decide_eq_true (by omega))) ?_
  refine hcons (kGe (isX rfl) (isZ (m := 1) rfl) (decide_eq_true (by omega))) ?_
  refine hcons (kLe (isX rfl) (isZ (m := 255) rfl) (decide_eq_true (by omega))) ?_
  refine hcons (kGe (isX rfl) (isZ (m := 0) rfl) (decide_eq_true (by omega))) ?_
  refine hcons (kLe (isX rfl) (isZ (m := 65535) rfl) (decide_eq_true (by omega))) ?_
  refine hcons (kLe (isX rfl) (isZ (m := 65535) rfl) (decide_eq_true (by omega))) ?_
  refine hcons (kGe (isX rfl) (isZ (m := 0) rfl) (decide_eq_true (by omega))) ?_
  refine hcons (kLe (isX rfl) (isZ (m := 255) rfl) (decide_eq_false (by omega))) ?_
  refine hcons (kEqS (isX rfl) (isX rfl) (decide_eq_true rfl)) ?_
  refine hcons (kMax (isX rfl) (isZ (m := 0) rfl) (denX rfl) rfl) ?_
  refine hcons (kNeg (isX rfl) (denX rfl) (by omega) (fI64 (by omega) (by omega))) ?_
  refine hcons (kAndG 3 8 rfl (by decide) (isX rfl) (isZ (m := 7) rfl) (denX rfl) (fI64 (by omega) (by omega)) rfl rfl (fI64 (by omega) (by omega))) ?_
  refine hcons (kMax (isZ (m := 0) rfl) (isX rfl) (denX rfl) rfl) ?_
  refine hcons (kRem (isX rfl) (isZ (m := 8) rfl) (denX rfl) (by omega) (by omega) rfl) ?_
  refine hcons (kSub (isZ (m := 8) rfl) (isX rfl) (denX rfl) (by omega) (fI64 (by omega) (by omega))) ?_
  refine hcons (kRem (isX rfl) (isZ (m := 8) rfl) (denX rfl) (by omega) (by omega) rfl) ?_
  refine hcons (kEqI (isX rfl) (isX rfl) (decide_eq_true (by omega))) ?_
  exact hnil
theorem path49 (rt : Int) (ri : Int) (c : List UInt8) (rp : Int) (s : List UInt8) (n : Int) (b0 : -9223372036854775808 ≤ rt) (b1 : rt ≤ 9223372036854775807) (b2 : -9223372036854775808 ≤ ri) (b3 : ri ≤ 9223372036854775807) (b4 : c.length ≤ 9223372036854775807) (b5 : -9223372036854775808 ≤ rp) (b6 : rp ≤ 9223372036854775807) (b7 : s.length ≤ 9223372036854775807) (b8 : -9223372036854775808 ≤ n) (b9 : n ≤ 9223372036854775807) (h0 : ¬ (3000 < (s.length : Int))) (h1 : ¬ (70000 < (c.length : Int))) (h2 : ¬ ((s.length : Int) = 0)) (h3 : bt s 0 = 1) (h4 : ¬ ((s.length : Int) < 8)) (h5 : (s.length : Int) < (bt s 4) * 256 + (bt s 5) + (bt s 6) + 8) (h8 : 1 ≤ rt) (h9 : rt ≤ 255) (h10 : 0 ≤ ri) (h11 : ri ≤ 65535) (h12 : (c.length : Int) ≤ 65535) (h13 : 0 ≤ rp) (h14 : ¬ (rp ≤ 255)) (w : World) (hl : laidE w) : Calls Tryd.prog 5 #[.agg #[.int .i64 rt, .int .i64 ri, St' c, .int .i64 rp], St' s, .int .i64 n] w fun e w' => e = .returned (.bool true) ∧ Go.AX.Below w.heap.size w w' := by
  obtain ⟨fi, hfi, hb⟩ : ∃ fi, tabk.fn.get 5 = some fi ∧ fi.body.isSome = true := ⟨_, rfl, by kernel_rfl⟩
  exact runP (tb := tab49) ((tabkOk (nuL (nu49 rt ri c rp s n)) (one49 rt ri c rp s n)).hyps (hyOk49 rt ri c rp s n b0 b1 b2 b3 b4 b5 b6 b7 b8 b9 h0 h1 h2 h3 h4 h5 h8 h9 h10 h11 h12 h13 h14)) rfl hfi hb (fun e => run49 e ) (args := [.agg #[.int .i64 rt, .int .i64 ri, St' c, .int .i64 rp], St' s, .int .i64 n]) (by simp only [RelL, Rel]; exact ⟨_, _, rfl, ⟨_, rfl, ⟨_, _, rfl, rfl, ⟨_, _, rfl, rfl, ⟨_, _, rfl, rfl, ⟨_, _, rfl, rfl, rfl⟩⟩⟩⟩⟩, ⟨_, _, rfl, rfl, ⟨_, _, rfl, rfl, rfl⟩⟩⟩) w hl
end Go.Proofs.YtejdkoheodambaaDoor.recordTells
