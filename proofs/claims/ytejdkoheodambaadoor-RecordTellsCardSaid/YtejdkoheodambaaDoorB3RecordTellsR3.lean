/- A part of the proof: an interpreter of the model's own code on partly known states, and that what it answers is what the program answers. No condition of its own. -/
import Derived.Test.YtejdkoheodambaaDoorB3RecordTellsO
set_option maxRecDepth 100000
set_option linter.unusedVariables false
set_option linter.unusedSimpArgs false
namespace Go.Proofs.YtejdkoheodambaaDoor.recordTells
open Go Go.AX Go.Proofs Go.Proofs.YtejdkoheodambaaDoor
def hy36 : List (HK × AV) := [(.len (.x 4), .x 6),
  (.bin .gtr (.x 6) (.i .i64 (.ofNat 3000)), .b false),
  (.len (.x 2), .x 7),
  (.bin .gtr (.x 7) (.i .i64 (.ofNat 70000)), .b false),
  (.bin .neq (.x 4) (.s 0 0), .b true),
  (.idx (.x 4) (.i .i64 (.ofNat 0)), .x 8),
  (.bin .neq (.x 8) (.i .u8 (.ofNat 1)), .b false),
  (.bin .lss (.x 6) (.i .i64 (.ofNat 8)), .b false),
  (.idx (.x 4) (.i .i64 (.ofNat 4)), .x 9),
  (.conv 3 (.x 9), .x 10),
  (.bin .shl (.x 10) (.i .u64 (.ofNat 8)), .x 11),
  (.bin .add (.i .i64 (.ofNat 8)) (.x 11), .x 12),
  (.idx (.x 4) (.i .i64 (.ofNat 5)), .x 13),
  (.conv 3 (.x 13), .x 14),
  (.bin .add (.x 12) (.x 14), .x 15),
  (.idx (.x 4) (.i .i64 (.ofNat 6)), .x 16),
  (.conv 3 (.x 16), .x 17),
  (.bin .add (.x 15) (.x 17), .x 18),
  (.bin .lss (.x 6) (.x 18), .b true),
  (.bin .gtr (.x 6) (.i .i64 (.ofNat 0)), .b true),
  (.bin .mul (.x 10) (.i .i64 (.ofNat 256)), .x 19),
  (.bin .add (.x 19) (.x 14), .x 20),
  (.bin .add (.i .i64 (.ofNat 8)) (.x 20), .x 21),
  (.bin .add (.x 21) (.x 17), .x 22),
  (.bin .lss (.x 6) (.x 22), .b true),
  (.bin .geq (.x 0) (.i .i64 (.ofNat 1)), .b true),
  (.bin .leq (.x 0) (.i .i64 (.ofNat 255)), .b true),
  (.bin .geq (.x 1) (.i .i64 (.ofNat 0)), .b true),
  (.bin .leq (.x 1) (.i .i64 (.ofNat 65535)), .b true),
  (.bin .leq (.x 7) (.i .i64 (.ofNat 65535)), .b false),
  (.bin .eql (.x 4) (.x 4), .b true),
  (.mm true (.x 5) (.i .i64 (.ofNat 0)), .x 23),
  (.un .neg (.x 23), .x 24),
  (.bin .and (.x 24) (.i .i64 (.ofNat 7)), .x 25),
  (.mm true (.i .i64 (.ofNat 0)) (.x 5), .x 26),
  (.bin .rem (.x 26) (.i .i64 (.ofNat 8)), .x 27),
  (.bin .sub (.i .i64 (.ofNat 8)) (.x 27), .x 28),
  (.bin .rem (.x 28) (.i .i64 (.ofNat 8)), .x 29),
  (.bin .eql (.x 25) (.x 29), .b true)]
noncomputable def tab36 : Tab := { tabk with hyp := hy36 }
theorem run36 (e : Nat) : okB (call tab36 9000 5 [.ag [.x 0, .x 1, .x 2, .x 3], .x 4, .x 5] ⟨H0 e , 7, 0, 0⟩) = true := by kernel_rfl
def nu36 (rt : Int) (ri : Int) (c : List UInt8) (rp : Int) (s : List UInt8) (n : Int) : List Value := [.int .i64 (rt),
  .int .i64 (ri),
  St' c,
  .int .i64 (rp),
  St' s,
  .int .i64 (n),
  .int .i64 ((s.length : Int)),
  .int .i64 ((c.length : Int)),
  .int .u8 (bt s 0),
  .int .u8 (bt s 4),
  .int .i64 ((bt s 4)),
  .int .i64 ((bt s 4) * 256),
  .int .i64 ((bt s 4) * 256 + 8),
  .int .u8 (bt s 5),
  .int .i64 ((bt s 5)),
  .int .i64 ((bt s 4) * 256 + (bt s 5) + 8),
  .int .u8 (bt s 6),
  .int .i64 ((bt s 6)),
  .int .i64 ((bt s 4) * 256 + (bt s 5) + (bt s 6) + 8),
  .int .i64 ((bt s 4) * 256),
  .int .i64 ((bt s 4) * 256 + (bt s 5)),
  .int .i64 ((bt s 4) * 256 + (bt s 5) + 8),
  .int .i64 ((bt s 4) * 256 + (bt s 5) + (bt s 6) + 8),
  .int .i64 (max n 0),
  .int .i64 (-((max n 0))),
  .int .i64 ((-((max n 0))) % 8),
  .int .i64 (max 0 n),
  .int .i64 ((max 0 n) % 8),
  .int .i64 (8 - ((max 0 n) % 8)),
  .int .i64 ((8 - ((max 0 n) % 8)) % 8)]
theorem one36 (rt : Int) (ri : Int) (c : List UInt8) (rp : Int) (s : List UInt8) (n : Int) : ∀ j, (nuL (nu36 rt ri c rp s n) j).oneCell' = true := nuL_one (l := nu36 rt ri c rp s n) rfl
set_option maxHeartbeats 2000000 in
theorem hyOk36 (rt : Int) (ri : Int) (c : List UInt8) (rp : Int) (s : List UInt8) (n : Int) (b0 : -9223372036854775808 ≤ rt) (b1 : rt ≤ 9223372036854775807) (b2 : -9223372036854775808 ≤ ri) (b3 : ri ≤ 9223372036854775807) (b4 : c.length ≤ 9223372036854775807) (b5 : -9223372036854775808 ≤ rp) (b6 : rp ≤ 9223372036854775807) (b7 : s.length ≤ 9223372036854775807) (b8 : -9223372036854775808 ≤ n) (b9 : n ≤ 9223372036854775807) (h0 : ¬ (3000 < (s.length : Int))) (h1 : ¬ (70000 < (c.length : Int))) (h2 : ¬ ((s.length : Int) = 0)) (h3 : bt s 0 = 1) (h4 : ¬ ((s.length : Int) < 8)) (h5 : (s.length : Int) < (bt s 4) * 256 + (bt s 5) + (bt s 6) + 8) (h8 : 1 ≤ rt) (h9 : rt ≤ 255) (h10 : 0 ≤ ri) (h11 : ri ≤ 65535) (h12 : ¬ ((c.length : Int) ≤ 65535)) : ∀ k r, (k, r) ∈ hy36 → HOk (cx (nuL (nu36 rt ri c rp s n)) (one36 rt ri c rp s n) 1 laidE laidE_stab) k r := by
  have := bt_lo s 0; have := bt_hi s 0
  have := bt_lo s 4; have := bt_hi s 4
  have := bt_lo s 5; have := bt_hi s 5
  have := bt_lo s 6; have := bt_hi s 6
  unfold hy36
  refine hcons (kLenE (isX rfl) (denX rfl) (by first | omega | (simp only [List.length_append, List.length_cons, List.length_nil, List.length_take, List.length_drop, List.length_replicate, Int.natCast_add] at *; omega))) ?_
  refine hcons (kGt (isX rfl) (isZ (m := 3000) rfl) (decide_eq_false (by omega))) ?_
  refine hcons (kLenE (isX rfl) (denX rfl) (by first | omega | (simp only [List.length_append, List.length_cons, List.length_nil, List.length_take, List.length_drop, List.length_replicate, Int.natCast_add] at *; omega))) ?_
  refine hcons (kGt (isX rfl) (isZ (m := 70000) rfl) (decide_eq_false (by omega))) ?_
  refine hcons (kNeS (isX rfl) (isSx (l := ([] : List UInt8)) 0 0 rfl) (bnT (by first | exact nilT (by first | omega | (simp only [List.length_append, List.length_cons, List.length_nil, List.length_take, List.length_drop, List.length_replicate, Int.natCast_add] at *; omega)) | exact nilF (by first | omega | (simp only [List.length_append, List.length_cons, List.length_nil, List.length_take, List.length_drop, List.length_replicate, Int.natCast_add] at *; omega)) | exact nilT' (by first | omega | (simp only [List.length_append, List.length_cons, List.length_nil, List.length_take, List.length_drop, List.length_replicate, Int.natCast_add] at *; omega)) | exact nilF' (by first | omega | (simp only [List.length_append, List.length_cons, List.length_nil, List.length_take, List.length_drop, List.length_replicate, Int.natCast_add] at *; omega))))) ?_
  refine hcons (kIdxE (i := 0) (isX rfl) (isZ (m := 0) rfl) (denX rfl) rfl (by first | omega | (simp only [List.length_append, List.length_cons, List.length_nil, List.length_take, List.length_drop, List.length_replicate, Int.natCast_add] at *; omega)) rfl) ?_
  refine hcons (kNeI (isX rfl) (isZ (m := 1) rfl) (neF (by omega))) ?_
  refine hcons (kLt (isX rfl) (isZ (m := 8) rfl) (decide_eq_false (by omega))) ?_
  refine hcons (kIdxE (i := 4) (isX rfl) (isZ (m := 4) rfl) (denX rfl) rfl (by first | omega | (simp only [List.length_append, List.length_cons, List.length_nil, List.length_take, List.length_drop, List.length_replicate, Int.natCast_add] at *; omega)) rfl) ?_
  refine hcons (kConvF (isX rfl) tu3 (denX rfl) (fI64 (by omega) (by omega))) ?_
  refine hcons (kShlM 8 256 rfl (isX rfl) (isZ (m := 8) rfl) (denX rfl) rfl (by decide) (by omega) (fI64 (by omega) (by omega))) ?_
  refine hcons (kAdd (isZ (m := 8) rfl) (isX rfl) (denX rfl) (by omega) (fI64 (by omega) (by omega))) ?_
  refine hcons (kIdxE (i := 5) (isX rfl) (isZ (m := 5) rfl) (denX rfl) rfl (by first | omega | (simp only [List.length_append, List.length_cons, List.length_nil, List.length_take, List.length_drop, List.length_replicate, Int.natCast_add] at *; omega)) rfl) ?_
  refine hcons (kConvF (isX rfl) tu3 (denX rfl) (fI64 (by omega) (by omega))) ?_
  refine hcons (kAdd (isX rfl) (isX rfl) (denX rfl) (by omega) (fI64 (by omega) (by omega))) ?_
  refine hcons (kIdxE (i := 6) (isX rfl) (isZ (m := 6) rfl) (denX rfl) rfl (by first | omega | (simp only [List.length_append, List.length_cons, List.length_nil, List.length_take, List.length_drop, List.length_replicate, Int.natCast_add] at *; omega)) rfl) ?_
  refine hcons (kConvF (isX rfl) tu3 (denX rfl) (fI64 (by omega) (by omega))) ?_
  refine hcons (kAdd (isX rfl) (isX rfl) (denX rfl) (by omega) (fI64 (by omega) (by omega))) ?_
  refine hcons (kLt (isX rfl) (isX rfl) (decide_eq_true (by omega))) ?_
  refine hcons (kGt (isX rfl) (isZ (m := 0) rfl) (decide_eq_true (by omega))) ?_
  refine hcons (kMul (isX rfl) (isZ (m := 256) rfl) (denX rfl) (by omega) (fI64 (by omega) (by omega))) ?_
  refine hcons (kAdd (isX rfl) (isX rfl) (denX rfl) (by omega) (fI64 (by omega) (by omega))) ?_
  refine hcons (kAdd (isZ (m := 8) rfl) (isX rfl) (denX rfl) (by omega) (fI64 (by omega) (by omega))) ?_
  refine hcons (kAdd (isX rfl) (isX rfl) (denX rfl) (by omega) (fI64 (by omega) (by omega))) ?_
  refine hcons (kLt (isX rfl) (isX rfl) (decide_eq_true (by omega))) ?_
  refine hcons (kGe (isX rfl) (isZ (m := 1) rfl) (decide_eq_true (by omega))) ?_
  refine hcons (kLe (isX rfl) (isZ (m := 255) rfl) (decide_eq_true (by omega))) ?_
  refine hcons (kGe (isX rfl) (isZ (m := 0) rfl) (decide_eq_true (by omega))) ?_
  refine hcons (kLe (isX rfl) (isZ (m := 65535) rfl) (decide_eq_true (by omega))) ?_
  refine hcons (kLe (isX rfl) (isZ (m := 65535) rfl) (decide_eq_false (by omega))) ?_
  refine hcons (kEqS (isX rfl) (isX rfl) (decide_eq_true rfl)) ?_
  refine hcons (kMax (isX rfl) (isZ (m := 0) rfl) (denX rfl) rfl) ?_
  refine hcons (kNeg (isX rfl) (denX rfl) (by omega) (fI64 (by omega) (by omega))) ?_
  refine hcons (kAndG 3 8 rfl (by decide) (isX rfl) (isZ (m := 7) rfl) (denX rfl) (fI64 (by omega) (by omega)) rfl rfl (fI64 (by omega) (by omega))) ?_
  refine hcons (kMax (isZ (m := 0) rfl) (isX rfl) (denX rfl) rfl) ?_
  refine hcons (kRem (isX rfl) (isZ (m := 8) rfl) (denX rfl) (by omega) (by omega) rfl) ?_
  refine hcons (kSub (isZ (m := 8) rfl) (isX rfl) (denX rfl) (by omega) (fI64 (by omega) (by omega))) ?_
  refine hcons (kRem (isX rfl) (isZ (m := 8) rfl) (denX rfl) (by omega) (by omega) rfl) ?_
  refine hcons (kEqI (isX rfl) (isX rfl) (decide_eq_true (by omega))) ?_
  exact hnil
theorem path36 (rt : Int) (ri : Int) (c : List UInt8) (rp : Int) (s : List UInt8) (n : Int) (b0 : -9223372036854775808 ≤ rt) (b1 : rt ≤ 9223372036854775807) (b2 : -9223372036854775808 ≤ ri) (b3 : ri ≤ 9223372036854775807) (b4 : c.length ≤ 9223372036854775807) (b5 : -9223372036854775808 ≤ rp) (b6 : rp ≤ 9223372036854775807) (b7 : s.length ≤ 9223372036854775807) (b8 : -9223372036854775808 ≤ n) (b9 : n ≤ 9223372036854775807) (h0 : ¬ (3000 < (s.length : Int))) (h1 : ¬ (70000 < (c.length : Int))) (h2 : ¬ ((s.length : Int) = 0)) (h3 : bt s 0 = 1) (h4 : ¬ ((s.length : Int) < 8)) (h5 : (s.length : Int) < (bt s 4) * 256 + (bt s 5) + (bt s 6) + 8) (h8 : 1 ≤ rt) (h9 : rt ≤ 255) (h10 : 0 ≤ ri) (h11 : ri ≤ 65535) (h12 : ¬ ((c.length : Int) ≤ 65535)) (w : World) (hl : laidE w) : Calls Tryd.prog 5 #[.agg #[.int .i64 rt, .int .i64 ri, St' c, .int .i64 rp], St' s, .int .i64 n] w fun e w' => e = .returned (.bool true) ∧ Go.AX.Below w.heap.size w w' := by
  obtain ⟨fi, hfi, hb⟩ : ∃ fi, tabk.fn.get 5 = some fi ∧ fi.body.isSome = true := ⟨_, rfl, by kernel_rfl⟩
  exact runP (tb := tab36) ((tabkOk (nuL (nu36 rt ri c rp s n)) (one36 rt ri c rp s n)).hyps (hyOk36 rt ri c rp s n b0 b1 b2 b3 b4 b5 b6 b7 b8 b9 h0 h1 h2 h3 h4 h5 h8 h9 h10 h11 h12)) rfl hfi hb (fun e => run36 e ) (args := [.agg #[.int .i64 rt, .int .i64 ri, St' c, .int .i64 rp], St' s, .int .i64 n]) (by simp only [RelL, Rel]; exact ⟨_, _, rfl, ⟨_, rfl, ⟨_, _, rfl, rfl, ⟨_, _, rfl, rfl, ⟨_, _, rfl, rfl, ⟨_, _, rfl, rfl, rfl⟩⟩⟩⟩⟩, ⟨_, _, rfl, rfl, ⟨_, _, rfl, rfl, rfl⟩⟩⟩) w hl
def hy37 : List (HK × AV) := [(.len (.x 4), .x 6),
  (.bin .gtr (.x 6) (.i .i64 (.ofNat 3000)), .b false),
  (.len (.x 2), .x 7),
  (.bin .gtr (.x 7) (.i .i64 (.ofNat 70000)), .b true)]
noncomputable def tab37 : Tab := { tabk with hyp := hy37 }
theorem run37 (e : Nat) : okB (call tab37 9000 5 [.ag [.x 0, .x 1, .x 2, .x 3], .x 4, .x 5] ⟨H0 e , 7, 0, 0⟩) = true := by kernel_rfl
def nu37 (rt : Int) (ri : Int) (c : List UInt8) (rp : Int) (s : List UInt8) (n : Int) : List Value := [.int .i64 (rt),
  .int .i64 (ri),
  St' c,
  .int .i64 (rp),
  St' s,
  .int .i64 (n),
  .int .i64 ((s.length : Int)),
  .int .i64 ((c.length : Int))]
theorem one37 (rt : Int) (ri : Int) (c : List UInt8) (rp : Int) (s : List UInt8) (n : Int) : ∀ j, (nuL (nu37 rt ri c rp s n) j).oneCell' = true := nuL_one (l := nu37 rt ri c rp s n) rfl
set_option maxHeartbeats 2000000 in
theorem hyOk37 (rt : Int) (ri : Int) (c : List UInt8) (rp : Int) (s : List UInt8) (n : Int) (b0 : -9223372036854775808 ≤ rt) (b1 : rt ≤ 9223372036854775807) (b2 : -9223372036854775808 ≤ ri) (b3 : ri ≤ 9223372036854775807) (b4 : c.length ≤ 9223372036854775807) (b5 : -9223372036854775808 ≤ rp) (b6 : rp ≤ 9223372036854775807) (b7 : s.length ≤ 9223372036854775807) (b8 : -9223372036854775808 ≤ n) (b9 : n ≤ 9223372036854775807) (h0 : ¬ (3000 < (s.length : Int))) (h1 : 70000 < (c.length : Int)) : ∀ k r, (k, r) ∈ hy37 → HOk (cx (nuL (nu37 rt ri c rp s n)) (one37 rt ri c rp s n) 1 laidE laidE_stab) k r := by
  unfold hy37
  refine hcons (kLenE (isX rfl) (denX rfl) (by first | omega | (simp only [List.length_append, List.length_cons, List.length_nil, List.length_take, List.length_drop, List.length_replicate, Int.natCast_add] at *; omega))) ?_
  refine hcons (kGt (isX rfl) (isZ (m := 3000) rfl) (decide_eq_false (by omega))) ?_
  refine hcons (kLenE (isX rfl) (denX rfl) (by first | omega | (simp only [List.length_append, List.length_cons, List.length_nil, List.length_take, List.length_drop, List.length_replicate, Int.natCast_add] at *; omega))) ?_
  refine hcons (kGt (isX rfl) (isZ (m := 70000) rfl) (decide_eq_true (by omega))) ?_
  exact hnil
theorem path37 (rt : Int) (ri : Int) (c : List UInt8) (rp : Int) (s : List UInt8) (n : Int) (b0 : -9223372036854775808 ≤ rt) (b1 : rt ≤ 9223372036854775807) (b2 : -9223372036854775808 ≤ ri) (b3 : ri ≤ 9223372036854775807) (b4 : c.length ≤ 9223372036854775807) (b5 : -9223372036854775808 ≤ rp) (b6 : rp ≤ 9223372036854775807) (b7 : s.length ≤ 9223372036854775807) (b8 : -9223372036854775808 ≤ n) (b9 : n ≤ 9223372036854775807) (h0 : ¬ (3000 < (s.length : Int))) (h1 : 70000 < (c.length : Int)) (w : World) (hl : laidE w) : Calls Tryd.prog 5 #[.agg #[.int .i64 rt, .int .i64 ri, St' c, .int .i64 rp], St' s, .int .i64 n] w fun e w' => e = .returned (.bool true) ∧ Go.AX.Below w.heap.size w w' := by
  obtain ⟨fi, hfi, hb⟩ : ∃ fi, tabk.fn.get 5 = some fi ∧ fi.body.isSome = true := ⟨_, rfl, by kernel_rfl⟩
  exact runP (tb := tab37) ((tabkOk (nuL (nu37 rt ri c rp s n)) (one37 rt ri c rp s n)).hyps (hyOk37 rt ri c rp s n b0 b1 b2 b3 b4 b5 b6 b7 b8 b9 h0 h1)) rfl hfi hb (fun e => run37 e ) (args := [.agg #[.int .i64 rt, .int .i64 ri, St' c, .int .i64 rp], St' s, .int .i64 n]) (by simp only [RelL, Rel]; exact ⟨_, _, rfl, ⟨_, rfl, ⟨_, _, rfl, rfl, ⟨_, _, rfl, rfl, ⟨_, _, rfl, rfl, ⟨_, _, rfl, rfl, rfl⟩⟩⟩⟩⟩, ⟨_, _, rfl, rfl, ⟨_, _, rfl, rfl, rfl⟩⟩⟩) w hl
def hy38 : List (HK × AV) := [(.len (.x 4), .x 6),
  (.bin .gtr (.x 6) (.i .i64 (.ofNat 3000)), .b false),
  (.len (.x 2), .x 7),
  (.bin .gtr (.x 7) (.i .i64 (.ofNat 70000)), .b false),
  (.bin .neq (.x 4) (.s 0 0), .b false),
  (.bin .lss (.x 6) (.i .i64 (.ofNat 8)), .b true),
  (.bin .gtr (.x 6) (.i .i64 (.ofNat 0)), .b false),
  (.bin .geq (.x 0) (.i .i64 (.ofNat 1)), .b true),
  (.bin .leq (.x 0) (.i .i64 (.ofNat 255)), .b true),
  (.bin .geq (.x 1) (.i .i64 (.ofNat 0)), .b true),
  (.bin .leq (.x 1) (.i .i64 (.ofNat 65535)), .b true),
  (.bin .leq (.x 7) (.i .i64 (.ofNat 65535)), .b true),
  (.bin .geq (.x 3) (.i .i64 (.ofNat 0)), .b false),
  (.bin .eql (.x 4) (.x 4), .b true),
  (.mm true (.x 5) (.i .i64 (.ofNat 0)), .x 8),
  (.un .neg (.x 8), .x 9),
  (.bin .and (.x 9) (.i .i64 (.ofNat 7)), .x 10),
  (.mm true (.i .i64 (.ofNat 0)) (.x 5), .x 11),
  (.bin .rem (.x 11) (.i .i64 (.ofNat 8)), .x 12),
  (.bin .sub (.i .i64 (.ofNat 8)) (.x 12), .x 13),
  (.bin .rem (.x 13) (.i .i64 (.ofNat 8)), .x 14),
  (.bin .eql (.x 10) (.x 14), .b true)]
noncomputable def tab38 : Tab := { tabk with hyp := hy38 }
theorem run38 (e : Nat) : okB (call tab38 9000 5 [.ag [.x 0, .x 1, .x 2, .x 3], .x 4, .x 5] ⟨H0 e , 7, 0, 0⟩) = true := by kernel_rfl
def nu38 (rt : Int) (ri : Int) (c : List UInt8) (rp : Int) (s : List UInt8) (n : Int) : List Value := [.int .i64 (rt),
  .int .i64 (ri),
  St' c,
  .int .i64 (rp),
  St' s,
  .int .i64 (n),
  .int .i64 ((s.length : Int)),
  .int .i64 ((c.length : Int)),
  .int .i64 (max n 0),
  .int .i64 (-((max n 0))),
  .int .i64 ((-((max n 0))) % 8),
  .int .i64 (max 0 n),
  .int .i64 ((max 0 n) % 8),
  .int .i64 (8 - ((max 0 n) % 8)),
  .int .i64 ((8 - ((max 0 n) % 8)) % 8)]
theorem one38 (rt : Int) (ri : Int) (c : List UInt8) (rp : Int) (s : List UInt8) (n : Int) : ∀ j, (nuL (nu38 rt ri c rp s n) j).oneCell' = true := nuL_one (l := nu38 rt ri c rp s n) rfl
set_option maxHeartbeats 2000000 in
theorem hyOk38 (rt : Int) (ri : Int) (c : List UInt8) (rp : Int) (s : List UInt8) (n : Int) (b0 : -9223372036854775808 ≤ rt) (b1 : rt ≤ 9223372036854775807) (b2 : -9223372036854775808 ≤ ri) (b3 : ri ≤ 9223372036854775807) (b4 : c.length ≤ 9223372036854775807) (b5 : -9223372036854775808 ≤ rp) (b6 : rp ≤ 9223372036854775807) (b7 : s.length ≤ 9223372036854775807) (b8 : -9223372036854775808 ≤ n) (b9 : n ≤ 9223372036854775807) (h0 : ¬ (3000 < (s.length : Int))) (h1 : ¬ (70000 < (c.length : Int))) (h2 : (s.length : Int) = 0) (h5 : 1 ≤ rt) (h6 : rt ≤ 255) (h7 : 0 ≤ ri) (h8 : ri ≤ 65535) (h9 : (c.length : Int) ≤ 65535) (h10 : ¬ (0 ≤ rp)) : ∀ k r, (k, r) ∈ hy38 → HOk (cx (nuL (nu38 rt ri c rp s n)) (one38 rt ri c rp s n) 1 laidE laidE_stab) k r := by
  unfold hy38
  refine hcons (kLenE (isX rfl) (denX rfl) (by first | omega | (simp only [List.length_append, List.length_cons, List.length_nil, List.length_take, List.length_drop, List.length_replicate, Int.natCast_add] at *; omega))) ?_
  refine hcons (kGt (isX rfl) (isZ (m := 3000) rfl) (decide_eq_false (by omega))) ?_
  refine hcons (kLenE (isX rfl) (denX rfl) (by first | omega | (simp only [List.length_append, List.length_cons, List.length_nil, List.length_take, List.length_drop, List.length_replicate, Int.natCast_add] at *; omega))) ?_
  refine hcons (kGt (isX rfl) (isZ (m := 70000) rfl) (decide_eq_false (by omega))) ?_
  refine hcons (kNeS (isX rfl) (isSx (l := ([] : List UInt8)) 0 0 rfl) (bnF (by first | exact nilT (by first | omega | (simp only [List.length_append, List.length_cons, List.length_nil, List.length_take, List.length_drop, List.length_replicate, Int.natCast_add] at *; omega)) | exact nilF (by first | omega | (simp only [List.length_append, List.length_cons, List.length_nil, List.length_take, List.length_drop, List.length_replicate, Int.natCast_add] at *; omega)) | exact nilT' (by first | omega | (simp only [List.length_append, List.length_cons, List.length_nil, List.length_take, List.length_drop, List.length_replicate, Int.natCast_add] at *; omega)) | exact nilF' (by first | omega | (simp only [List.length_append, List.length_cons, List.length_nil, List.length_take, List.length_drop, List.length_replicate, Int.natCast_add] at *; omega))))) ?_
  refine hcons (kLt (isX rfl) (isZ (m := 8) rfl) (decide_eq_true (by omega))) ?_
  refine hcons (kGt (isX rfl) (isZ (m := 0) rfl) (decide_eq_false (by omega))) ?_
  refine hcons (kGe (isX rfl) (isZ (m := 1) rfl) (decide_eq_true (by omega))) ?_
  refine hcons (kLe (isX rfl) (isZ (m := 255) rfl) (decide_eq_true (by omega))) ?_
  refine hcons (kGe (isX rfl) (isZ (m := 0) rfl) (decide_eq_true (by omega))) ?_
  refine hcons (kLe (isX rfl) (isZ (m := 65535) rfl) (decide_eq_true (by omega))) ?_
  refine hcons (kLe (isX rfl) (isZ (m := 65535) rfl) (decide_eq_true (by omega))) ?_
  refine hcons (kGe (isX rfl) (isZ (m := 0) rfl) (decide_eq_false (by omega))) ?_
  refine hcons (kEqS (isX rfl) (isX rfl) (decide_eq_true rfl)) ?_
  refine hcons (kMax (isX rfl) (isZ (m := 0) rfl) (denX rfl) rfl) ?_
  refine hcons (kNeg (isX rfl) (denX rfl) (by omega) (fI64 (by omega) (by omega))) ?_
  refine hcons (kAndG 3 8 rfl (by decide) (isX rfl) (isZ (m := 7) rfl) (denX rfl) (fI64 (by omega) (by omega)) rfl rfl (fI64 (by omega) (by omega))) ?_
  refine hcons (kMax (isZ (m := 0) rfl) (isX rfl) (denX rfl) rfl) ?_
  refine hcons (kRem (isX rfl) (isZ (m := 8) rfl) (denX rfl) (by omega) (by omega) rfl) ?_
  refine hcons (kSub (isZ (m := 8) rfl) (isX rfl) (denX rfl) (by omega) (fI64 (by omega) (by omega))) ?_
  refine hcons (kRem (isX rfl) (isZ (m := 8) rfl) (denX rfl) (by omega) (by omega) rfl) ?_
  refine hcons (kEqI (isX rfl) (isX rfl) (decide_eq_true (by omega))) ?_
  exact hnil
theorem path38 (rt : Int) (ri : Int) (c : List UInt8) (rp : Int) (s : List UInt8) (n : Int) (b0 : -9223372036854775808 ≤ rt) (b1 : rt ≤ 9223372036854775807) (b2 : -9223372036854775808 ≤ ri) (b3 : ri ≤ 9223372036854775807) (b4 : c.length ≤ 9223372036854775807) (b5 : -9223372036854775808 ≤ rp) (b6 : rp ≤ 9223372036854775807) (b7 : s.length ≤ 9223372036854775807) (b8 : -9223372036854775808 ≤ n) (b9 : n ≤ 9223372036854775807) (h0 : ¬ (3000 < (s.length : Int))) (h1 : ¬ (70000 < (c.length : Int))) (h2 : (s.length : Int) = 0) (h5 : 1 ≤ rt) (h6 : rt ≤ 255) (h7 : 0 ≤ ri) (h8 : ri ≤ 65535) (h9 : (c.length : Int) ≤ 65535) (h10 : ¬ (0 ≤ rp)) (w : World) (hl : laidE w) : Calls Tryd.prog 5 #[.agg #[.int .i64 rt, .int .i64 ri, St' c, .int .i64 rp], St' s, .int .i64 n] w fun e w' => e = .returned (.bool true) ∧ Go.AX.Below w.heap.size w w' := by
  obtain ⟨fi, hfi, hb⟩ : ∃ fi, tabk.fn.get 5 = some fi ∧ fi.body.isSome = true := ⟨_, rfl, by kernel_rfl⟩
  exact runP (tb := tab38) ((tabkOk (nuL (nu38 rt ri c rp s n)) (one38 rt ri c rp s n)).hyps (hyOk38 rt ri c rp s n b0 b1 b2 b3 b4 b5 b6 b7 b8 b9 h0 h1 h2 h5 h6 h7 h8 h9 h10)) rfl hfi hb (fun e => run38 e ) (args := [.agg #[.int .i64 rt, .int .i64 ri, St' c, .int .i64 rp], St' s, .int .i64 n]) (by simp only [RelL, Rel]; exact ⟨_, _, rfl, ⟨_, rfl, ⟨_, _, rfl, rfl, ⟨_, _, rfl, rfl, ⟨_, _, rfl, rfl, ⟨_, _, rfl, rfl, rfl⟩⟩⟩⟩⟩, ⟨_, _, rfl, rfl, ⟨_, _, rfl, rfl, rfl⟩⟩⟩) w hl
def hy39 : List (HK × AV) := [(.len (.x 4), .x 6),
  (.bin .gtr (.x 6) (.i .i64 (.ofNat 3000)), .b false),
  (.len (.x 2), .x 7),
  (.bin .gtr (.x 7) (.i .i64 (.ofNat 70000)), .b false),
  (.bin .neq (.x 4) (.s 0 0), .b true),
  (.idx (.x 4) (.i .i64 (.ofNat 0)), .x 8),
  (.bin .neq (.x 8) (.i .u8 (.ofNat 1)), .b true),
  (.bin .gtr (.x 6) (.i .i64 (.ofNat 0)), .b true),
  (.bin .geq (.x 0) (.i .i64 (.ofNat 1)), .b true),
  (.bin .leq (.x 0) (.i .i64 (.ofNat 255)), .b true),
  (.bin .geq (.x 1) (.i .i64 (.ofNat 0)), .b true),
  (.bin .leq (.x 1) (.i .i64 (.ofNat 65535)), .b true),
  (.bin .leq (.x 7) (.i .i64 (.ofNat 65535)), .b true),
  (.bin .geq (.x 3) (.i .i64 (.ofNat 0)), .b false),
  (.bin .eql (.x 4) (.x 4), .b true),
  (.mm true (.x 5) (.i .i64 (.ofNat 0)), .x 9),
  (.un .neg (.x 9), .x 10),
  (.bin .and (.x 10) (.i .i64 (.ofNat 7)), .x 11),
  (.mm true (.i .i64 (.ofNat 0)) (.x 5), .x 12),
  (.bin .rem (.x 12) (.i .i64 (.ofNat 8)), .x 13),
  (.bin .sub (.i .i64 (.ofNat 8)) (.x 13), .x 14),
  (.bin .rem (.x 14) (.i .i64 (.ofNat 8)), .x 15),
  (.bin .eql (.x 11) (.x 15), .b true)]
noncomputable def tab39 : Tab := { tabk with hyp := hy39 }
theorem run39 (e : Nat) : okB (call tab39 9000 5 [.ag [.x 0, .x 1, .x 2, .x 3], .x 4, .x 5] ⟨H0 e , 7, 0, 0⟩) = true := by kernel_rfl
def nu39 (rt : Int) (ri : Int) (c : List UInt8) (rp : Int) (s : List UInt8) (n : Int) : List Value := [.int .i64 (rt),
  .int .i64 (ri),
  St' c,
  .int .i64 (rp),
  St' s,
  .int .i64 (n),
  .int .i64 ((s.length : Int)),
  .int .i64 ((c.length : Int)),
  .int .u8 (bt s 0),
  .int .i64 (max n 0),
  .int .i64 (-((max n 0))),
  .int .i64 ((-((max n 0))) % 8),
  .int .i64 (max 0 n),
  .int .i64 ((max 0 n) % 8),
  .int .i64 (8 - ((max 0 n) % 8)),
  .int .i64 ((8 - ((max 0 n) % 8)) % 8)]
theorem one39 (rt : Int) (ri : Int) (c : List UInt8) (rp : Int) (s : List UInt8) (n : Int) : ∀ j, (nuL (nu39 rt ri c rp s n) j).oneCell' = true := nuL_one (l := nu39 rt ri c rp s n) rfl
set_option maxHeartbeats 2000000 in
theorem hyOk39 (rt : Int) (ri : Int) (c : List UInt8) (rp : Int) (s : List UInt8) (n : Int) (b0 : -9223372036854775808 ≤ rt) (b1 : rt ≤ 9223372036854775807) (b2 : -9223372036854775808 ≤ ri) (b3 : ri ≤ 9223372036854775807) (b4 : c.length ≤ 9223372036854775807) (b5 : -9223372036854775808 ≤ rp) (b6 : rp ≤ 9223372036854775807) (b7 : s.length ≤ 9223372036854775807) (b8 : -9223372036854775808 ≤ n) (b9 : n ≤ 9223372036854775807) (h0 : ¬ (3000 < (s.length : Int))) (h1 : ¬ (70000 < (c.length : Int))) (h2 : ¬ ((s.length : Int) = 0)) (h3 : ¬ (bt s 0 = 1)) (h5 : 1 ≤ rt) (h6 : rt ≤ 255) (h7 : 0 ≤ ri) (h8 : ri ≤ 65535) (h9 : (c.length : Int) ≤ 65535) (h10 : ¬ (0 ≤ rp)) : ∀ k r, (k, r) ∈ hy39 → HOk (cx (nuL (nu39 rt ri c rp s n)) (one39 rt ri c rp s n) 1 laidE laidE_stab) k r := by
  have := bt_lo s 0; have := bt_hi s 0
  unfold hy39
  refine hcons (kLenE (isX rfl) (denX rfl) (by first | omega | (simp only [List.length_append, List.length_cons, List.length_nil, List.length_take, List.length_drop, List.length_replicate, Int.natCast_add] at *; omega))) ?_
  refine hcons (kGt (isX rfl) (isZ (m := 3000) rfl) (decide_eq_false (by omega))) ?_
  refine hcons (kLenE (isX rfl) (denX rfl) (by first | omega | (simp only [List.length_append, List.length_cons, List.length_nil, List.length_take, List.length_drop, List.length_replicate, Int.natCast_add] at *; omega))) ?_
  refine hcons (kGt (isX rfl) (isZ (m := 70000) rfl) (decide_eq_false (by omega))) ?_
  refine hcons (kNeS (isX rfl) (isSx (l := ([] : List UInt8)) 0 0 rfl) (bnT (by first | exact nilT (by first | omega | (simp only [List.length_append, List.length_cons, List.length_nil, List.length_take, List.length_drop, List.length_replicate, Int.natCast_add] at *; omega)) | exact nilF (by first | omega | (simp only [List.length_append, List.length_cons, List.length_nil, List.length_take, List.length_drop, List.length_replicate, Int.natCast_add] at *; omega)) | exact nilT' (by first | omega | (simp only [List.length_append, List.length_cons, List.length_nil, List.length_take, List.length_drop, List.length_replicate, Int.natCast_add] at *; omega)) | exact nilF' (by first | omega | (simp only [List.length_append, List.length_cons, List.length_nil, List.length_take, List.length_drop, List.length_replicate, Int.natCast_add] at *; omega))))) ?_
  refine hcons (kIdxE (i := 0) (isX rfl) (isZ (m := 0) rfl) (denX rfl) rfl (by first | omega | (simp only [List.length_append, List.length_cons, List.length_nil, List.length_take, List.length_drop, List.length_replicate, Int.natCast_add] at *; omega)) rfl) ?_
  refine hcons (kNeI (isX rfl) (isZ (m := 1) rfl) (neT (by omega))) ?_
  refine hcons (kGt (isX rfl) (isZ (m := 0) rfl) (decide_eq_true (by omega))) ?_
  refine hcons (kGe (isX rfl) (isZ (m := 1) rfl) (decide_eq_true (by omega))) ?_
  refine hcons (kLe (isX rfl) (isZ (m := 255) rfl) (decide_eq_true (by omega))) ?_
  refine hcons (kGe (isX rfl) (isZ (m := 0) rfl) (decide_eq_true (by omega))) ?_
  refine hcons (kLe (isX rfl) (isZ (m := 65535) rfl) (decide_eq_true (by omega))) ?_
  refine hcons (kLe (isX rfl) (isZ (m := 65535) rfl) (decide_eq_true (by omega))) ?_
  refine hcons (kGe (isX rfl) (isZ (m := 0) rfl) (decide_eq_false (by omega))) ?_
  refine hcons (kEqS (isX rfl) (isX rfl) (decide_eq_true rfl)) ?_
  refine hcons (kMax (isX rfl) (isZ (m := 0) rfl) (denX rfl) rfl) ?_
  refine hcons (kNeg (isX rfl) (denX rfl) (by omega) (fI64 (by omega) (by omega))) ?_
  refine hcons (kAndG 3 8 rfl (by decide) (isX rfl) (isZ (m := 7) rfl) (denX rfl) (fI64 (by omega) (by omega)) rfl rfl (fI64 (by omega) (by omega))) ?_
  refine hcons (kMax (isZ (m := 0) rfl) (isX rfl) (denX rfl) rfl) ?_
  refine hcons (kRem (isX rfl) (isZ (m := 8) rfl) (denX rfl) (by omega) (by omega) rfl) ?_
  refine hcons (kSub (isZ (m := 8) rfl) (isX rfl) (denX rfl) (by omega) (fI64 (by omega) (by omega))) ?_
  refine hcons (kRem (isX rfl) (isZ (m := 8) rfl) (denX rfl) (by omega) (by omega) rfl) ?_
  refine hcons (kEqI (isX rfl) (isX rfl) (decide_eq_true (by omega))) ?_
  exact hnil
theorem path39 (rt : Int) (ri : Int) (c : List UInt8) (rp : Int) (s : List UInt8) (n : Int) (b0 : -9223372036854775808 ≤ rt) (b1 : rt ≤ 9223372036854775807) (b2 : -9223372036854775808 ≤ ri) (b3 : ri ≤ 9223372036854775807) (b4 : c.length ≤ 9223372036854775807) (b5 : -9223372036854775808 ≤ rp) (b6 : rp ≤ 9223372036854775807) (b7 : s.length ≤ 9223372036854775807) (b8 : -9223372036854775808 ≤ n) (b9 : n ≤ 9223372036854775807) (h0 : ¬ (3000 < (s.length : Int))) (h1 : ¬ (70000 < (c.length : Int))) (h2 : ¬ ((s.length : Int) = 0)) (h3 : ¬ (bt s 0 = 1)) (h5 : 1 ≤ rt) (h6 : rt ≤ 255) (h7 : 0 ≤ ri) (h8 : ri ≤ 65535) (h9 : (c.length : Int) ≤ 65535) (h10 : ¬ (0 ≤ rp)) (w : World) (hl : laidE w) : Calls Tryd.prog 5 #[.agg #[.int .i64 rt, .int .i64 ri, St' c, .int .i64 rp], St' s, .int .i64 n] w fun e w' => e = .returned (.bool true) ∧ Go.AX.Below w.heap.size w w' := by
  obtain ⟨fi, hfi, hb⟩ : ∃ fi, tabk.fn.get 5 = some fi ∧ fi.body.isSome = true := ⟨_, rfl, by kernel_rfl⟩
  exact runP (tb := tab39) ((tabkOk (nuL (nu39 rt ri c rp s n)) (one39 rt ri c rp s n)).hyps (hyOk39 rt ri c rp s n b0 b1 b2 b3 b4 b5 b6 b7 b8 b9 h0 h1 h2 h3 h5 h6 h7 h8 h9 h10)) rfl hfi hb (fun e => run39 e ) (args := [.agg #[.int .i64 rt, .int .i64 ri, St' c, .int .i64 rp], St' s, .int .i64 n]) (by simp only [RelL, Rel]; exact ⟨_, _, rfl, ⟨_, rfl, ⟨_, _, rfl, rfl, ⟨_, _, rfl, rfl, ⟨_, _, rfl, rfl, ⟨_, _, rfl, rfl, rfl⟩⟩⟩⟩⟩, ⟨_, _, rfl, rfl, ⟨_, _, rfl, rfl, rfl⟩⟩⟩) w hl
def hy40 : List (HK × AV) := [(.len (.x 4), .x 6),
  (.bin .gtr (.x 6) (.i .i64 (.ofNat 3000)), .b false),
  (.len (.x 2), .x 7),
  (.bin .gtr (.x 7) (.i .i64 (.ofNat 70000)), .b false),
  (.bin .neq (.x 4) (.s 0 0), .b true),
  (.idx (.x 4) (.i .i64 (.ofNat 0)), .x 8),
  (.bin .neq (.x 8) (.i .u8 (.ofNat 1)), .b false),
  (.bin .lss (.x 6) (.i .i64 (.ofNat 8)), .b true),
  (.bin .gtr (.x 6) (.i .i64 (.ofNat 0)), .b true),
  (.bin .geq (.x 0) (.i .i64 (.ofNat 1)), .b true),
  (.bin .leq (.x 0) (.i .i64 (.ofNat 255)), .b true),
  (.bin .geq (.x 1) (.i .i64 (.ofNat 0)), .b true),
  (.bin .leq (.x 1) (.i .i64 (.ofNat 65535)), .b true),
  (.bin .leq (.x 7) (.i .i64 (.ofNat 65535)), .b true),
  (.bin .geq (.x 3) (.i .i64 (.ofNat 0)), .b false),
  (.bin .eql (.x 4) (.x 4), .b true),
  (.mm true (.x 5) (.i .i64 (.ofNat 0)), .x 9),
  (.un .neg (.x 9), .x 10),
  (.bin .and (.x 10) (.i .i64 (.ofNat 7)), .x 11),
  (.mm true (.i .i64 (.ofNat 0)) (.x 5), .x 12),
  (.bin .rem (.x 12) (.i .i64 (.ofNat 8)), .x 13),
  (.bin .sub (.i .i64 (.ofNat 8)) (.x 13), .x 14),
  (.bin .rem (.x 14) (.i .i64 (.ofNat 8)), .x 15),
  (.bin .eql (.x 11) (.x 15), .b true)]
noncomputable def tab40 : Tab := { tabk with hyp := hy40 }
theorem run40 (e : Nat) : okB (call tab40 9000 5 [.ag [.x 0, .x 1, .x 2, .x 3], .x 4, .x 5] ⟨H0 e , 7, 0, 0⟩) = true := by kernel_rfl
def nu40 (rt : Int) (ri : Int) (c : List UInt8) (rp : Int) (s : List UInt8) (n : Int) : List Value := [.int .i64 (rt),
  .int .i64 (ri),
  St' c,
  .int .i64 (rp),
  St' s,
  .int .i64 (n),
  .int .i64 ((s.length : Int)),
  .int .i64 ((c.length : Int)),
  .int .u8 (bt s 0),
  .int .i64 (max n 0),
  .int .i64 (-((max n 0))),
  .int .i64 ((-((max n 0))) % 8),
  .int .i64 (max 0 n),
  .int .i64 ((max 0 n) % 8),
  .int .i64 (8 - ((max 0 n) % 8)),
  .int .i64 ((8 - ((max 0 n) % 8)) % 8)]
theorem one40 (rt : Int) (ri : Int) (c : List UInt8) (rp : Int) (s : List UInt8) (n : Int) : ∀ j, (nuL (nu40 rt ri c rp s n) j).oneCell' = true := nuL_one (l := nu40 rt ri c rp s n) rfl
set_option maxHeartbeats 2000000 in
theorem hyOk40 (rt : Int) (ri : Int) (c : List UInt8) (rp : Int) (s : List UInt8) (n : Int) (b0 : -9223372036854775808 ≤ rt) (b1 : rt ≤ 9223372036854775807) (b2 : -9223372036854775808 ≤ ri) (b3 : ri ≤ 9223372036854775807) (b4 : c.length ≤ 9223372036854775807) (b5 : -9223372036854775808 ≤ rp) (b6 : rp ≤ 9223372036854775807) (b7 : s.length ≤ 9223372036854775807) (b8 : -9223372036854775808 ≤ n) (b9 : n ≤ 9223372036854775807) (h0 : ¬ (3000 < (s.length : Int))) (h1 : ¬ (70000 < (c.length : Int))) (h2 : ¬ ((s.length : Int) = 0)) (h3 : bt s 0 = 1) (h4 : (s.length : Int) < 8) (h6 : 1 ≤ rt) (h7 : rt ≤ 255) (h8 : 0 ≤ ri) (h9 : ri ≤ 65535) (h10 : (c.length : Int) ≤ 65535) (h11 : ¬ (0 ≤ rp)) : ∀ k r, (k, r) ∈ hy40 → HOk (cx (nuL (nu40 rt ri c rp s n)) (one40 rt ri c rp s n) 1 laidE laidE_stab) k r := by
  have := bt_lo s 0; have := bt_hi s 0
  unfold hy40
  refine hcons (kLenE (isX rfl) (denX rfl) (by first | omega | (simp only [List.length_append, List.length_cons, List.length_nil, List.length_take, List.length_drop, List.length_replicate, Int.natCast_add] at *; omega))) ?_
  refine hcons (kGt (isX rfl) (isZ (m := 3000) rfl) (decide_eq_false (by omega))) ?_
  refine hcons (kLenE (isX rfl) (denX rfl) (by first | omega | (simp only [List.length_append, List.length_cons, List.length_nil, List.length_take, List.length_drop, List.length_replicate, Int.natCast_add] at *; omega))) ?_
  refine hcons (kGt (isX rfl) (isZ (m := 70000) rfl) (decide_eq_false (by omega))) ?_
  refine hcons (kNeS (isX rfl) (isSx (l := ([] : List UInt8)) 0 0 rfl) (bnT (by first | exact nilT (by first | omega | (simp only [List.length_append, List.length_cons, List.length_nil, List.length_take, List.length_drop, List.length_replicate, Int.natCast_add] at *; omega)) | exact nilF (by first | omega | (simp only [List.length_append, List.length_cons, List.length_nil, List.length_take, List.length_drop, List.length_replicate, Int.natCast_add] at *; omega)) | exact nilT' (by first | omega | (simp only [List.length_append, List.length_cons, List.length_nil, List.length_take, List.length_drop, List.length_replicate, Int.natCast_add] at *; omega)) | exact nilF' (by first | omega | (simp only [List.length_append, List.length_cons, List.length_nil, List.length_take, List.length_drop, List.length_replicate, Int.natCast_add] at *; omega))))) ?_
  refine hcons (kIdxE (i := 0) (isX rfl) (isZ (m := 0) rfl) (denX rfl) rfl (by first | omega | (simp only [List.length_append, List.length_cons, List.length_nil, List.length_take, List.length_drop, List.length_replicate, Int.natCast_add] at *; omega)) rfl) ?_
  refine hcons (kNeI (isX rfl) (isZ (m := 1) rfl) (neF (by omega))) ?_
  refine hcons (kLt (isX rfl) (isZ (m := 8) rfl) (decide_eq_true (by omega))) ?_
  refine hcons (kGt (isX rfl) (isZ (m := 0) rfl) (decide_eq_true (by omega))) ?_
  refine hcons (kGe (isX rfl) (isZ (m := 1) rfl) (decide_eq_true (by omega))) ?_
  refine hcons (kLe (isX rfl) (isZ (m := 255) rfl) (decide_eq_true (by omega))) ?_
  refine hcons (kGe (isX rfl) (isZ (m := 0) rfl) (decide_eq_true (by omega))) ?_
  refine hcons (kLe (isX rfl) (isZ (m := 65535) rfl) (decide_eq_true (by omega))) ?_
  refine hcons (kLe (isX rfl) (isZ (m := 65535) rfl) (decide_eq_true (by omega))) ?_
  refine hcons (kGe (isX rfl) (isZ (m := 0) rfl) (decide_eq_false (by omega))) ?_
  refine hcons (kEqS (isX rfl) (isX rfl) (decide_eq_true rfl)) ?_
  refine hcons (kMax (isX rfl) (isZ (m := 0) rfl) (denX rfl) rfl) ?_
  refine hcons (kNeg (isX rfl) (denX rfl) (by omega) (fI64 (by omega) (by omega))) ?_
  refine hcons (kAndG 3 8 rfl (by decide) (isX rfl) (isZ (m := 7) rfl) (denX rfl) (fI64 (by omega) (by omega)) rfl rfl (fI64 (by omega) (by omega))) ?_
  refine hcons (kMax (isZ (m := 0) rfl) (isX rfl) (denX rfl) rfl) ?_
  refine hcons (kRem (isX rfl) (isZ (m := 8) rfl) (denX rfl) (by omega) (by omega) rfl) ?_
  refine hcons (kSub (isZ (m := 8) rfl) (isX rfl) (denX rfl) (by omega) (fI64 (by omega) (by omega))) ?_
  refine hcons (kRem (isX rfl) (isZ (m := 8) rfl) (denX rfl) (by omega) (by omega) rfl) ?_
  refine hcons (kEqI (isX rfl) (isX rfl) (decide_eq_true (by omega))) ?_
  exact hnil
theorem path40 (rt : Int) (ri : Int) (c : List UInt8) (rp : Int) (s : List UInt8) (n : Int) (b0 : -9223372036854775808 ≤ rt) (b1 : rt ≤ 9223372036854775807) (b2 : -9223372036854775808 ≤ ri) (b3 : ri ≤ 9223372036854775807) (b4 : c.length ≤ 9223372036854775807) (b5 : -9223372036854775808 ≤ rp) (b6 : rp ≤ 9223372036854775807) (b7 : s.length ≤ 9223372036854775807) (b8 : -9223372036854775808 ≤ n) (b9 : n ≤ 9223372036854775807) (h0 : ¬ (3000 < (s.length : Int))) (h1 : ¬ (70000 < (c.length : Int))) (h2 : ¬ ((s.length : Int) = 0)) (h3 : bt s 0 = 1) (h4 : (s.length : Int) < 8) (h6 : 1 ≤ rt) (h7 : rt ≤ 255) (h8 : 0 ≤ ri) (h9 : ri ≤ 65535) (h10 : (c.length : Int) ≤ 65535) (h11 : ¬ (0 ≤ rp)) (w : World) (hl : laidE w) : Calls Tryd.prog 5 #[.agg #[.int .i64 rt, .int .i64 ri, St' c, .int .i64 rp], St' s, .int .i64 n] w fun e w' => e = .returned (.bool true) ∧ Go.AX.Below w.heap.size w w' := by
  obtain ⟨fi, hfi, hb⟩ : ∃ fi, tabk.fn.get 5 = some fi ∧ fi.body.isSome = true := ⟨_, rfl, by kernel_rfl⟩
  exact runP (tb := tab40) ((tabkOk (nuL (nu40 rt ri c rp s n)) (one40 rt ri c rp s n)).hyps (hyOk40 rt ri c rp s n b0 b1 b2 b3 b4 b5 b6 b7 b8 b9 h0 h1 h2 h3 h4 h6 h7 h8 h9 h10 h11)) rfl hfi hb (fun e => run40 e ) (args := [.agg #[.int .i64 rt, .int .i64 ri, St' c, .int .i64 rp], St' s, .int .i64 n]) (by simp only [RelL, Rel]; exact ⟨_, _, rfl, ⟨_, rfl, ⟨_, _, rfl, rfl, ⟨_, _, rfl, rfl, ⟨_, _, rfl, rfl, ⟨_, _, rfl, rfl, rfl⟩⟩⟩⟩⟩, ⟨_, _, rfl, rfl, ⟨_, _, rfl, rfl, rfl⟩⟩⟩) w hl
def hy41 : List (HK × AV) := [(.len (.x 4), .x 6),
  (.bin .gtr (.x 6) (.i .i64 (.ofNat 3000)), .b false),
  (.len (.x 2), .x 7),
  (.bin .gtr (.x 7) (.i .i64 (.ofNat 70000)), .b false),
  (.bin .neq (.x 4) (.s 0 0), .b true),
  (.idx (.x 4) (.i .i64 (.ofNat 0)), .x 8),
  (.bin .neq (.x 8) (.i .u8 (.ofNat 1)), .b false),
  (.bin .lss (.x 6) (.i .i64 (.ofNat 8)), .b false),
  (.idx (.x 4) (.i .i64 (.ofNat 4)), .x 9),
  (.conv 3 (.x 9), .x 10),
  (.bin .shl (.x 10) (.i .u64 (.ofNat 8)), .x 11),
  (.bin .add (.i .i64 (.ofNat 8)) (.x 11), .x 12),
  (.idx (.x 4) (.i .i64 (.ofNat 5)), .x 13),
  (.conv 3 (.x 13), .x 14),
  (.bin .add (.x 12) (.x 14), .x 15),
  (.idx (.x 4) (.i .i64 (.ofNat 6)), .x 16),
  (.conv 3 (.x 16), .x 17),
  (.bin .add (.x 15) (.x 17), .x 18),
  (.bin .lss (.x 6) (.x 18), .b false),
  (.idx (.x 4) (.i .i64 (.ofNat 1)), .x 19),
  (.bin .eql (.x 19) (.i .u8 (.ofNat 0)), .b false),
  (.conv 3 (.x 19), .x 20),
  (.idx (.x 4) (.i .i64 (.ofNat 2)), .x 21),
  (.conv 3 (.x 21), .x 22),
  (.bin .shl (.x 22) (.i .u64 (.ofNat 8)), .x 23),
  (.idx (.x 4) (.i .i64 (.ofNat 3)), .x 24),
  (.conv 3 (.x 24), .x 25),
  (.bin .or (.x 23) (.x 25), .x 26),
  (.bin .sub (.x 18) (.x 17), .x 27),
  (.sub (.x 4) (some (.i .i64 (.ofNat 8))) (some (.x 27)), .x 28),
  (.sub (.x 4) (some (.x 18)) none, .x 29),
  (.bin .gtr (.x 6) (.i .i64 (.ofNat 0)), .b true),
  (.bin .mul (.x 10) (.i .i64 (.ofNat 256)), .x 30),
  (.bin .add (.x 30) (.x 14), .x 31),
  (.bin .add (.i .i64 (.ofNat 8)) (.x 31), .x 32),
  (.bin .add (.x 32) (.x 17), .x 33),
  (.bin .lss (.x 6) (.x 33), .b false),
  (.bin .mul (.x 22) (.i .i64 (.ofNat 256)), .x 34),
  (.bin .add (.x 34) (.x 25), .x 35),
  (.sub (.x 4) (some (.i .i64 (.ofNat 8))) (some (.x 32)), .x 36),
  (.sub (.x 4) (some (.x 33)) none, .x 37),
  (.bin .geq (.x 0) (.i .i64 (.ofNat 1)), .b true),
  (.bin .leq (.x 0) (.i .i64 (.ofNat 255)), .b true),
  (.bin .geq (.x 1) (.i .i64 (.ofNat 0)), .b true),
  (.bin .leq (.x 1) (.i .i64 (.ofNat 65535)), .b true),
  (.bin .leq (.x 7) (.i .i64 (.ofNat 65535)), .b true),
  (.bin .geq (.x 3) (.i .i64 (.ofNat 0)), .b false),
  (.eq 3 (.x 20) (.x 20), .b true),
  (.eq 3 (.x 26) (.x 35), .b true),
  (.eq 9 (.x 28) (.x 36), .b true),
  (.eq 3 (.x 17) (.x 17), .b true),
  (.bin .eql (.x 29) (.x 37), .b true),
  (.mm true (.x 5) (.i .i64 (.ofNat 0)), .x 38),
  (.un .neg (.x 38), .x 39),
  (.bin .and (.x 39) (.i .i64 (.ofNat 7)), .x 40),
  (.mm true (.i .i64 (.ofNat 0)) (.x 5), .x 41),
  (.bin .rem (.x 41) (.i .i64 (.ofNat 8)), .x 42),
  (.bin .sub (.i .i64 (.ofNat 8)) (.x 42), .x 43),
  (.bin .rem (.x 43) (.i .i64 (.ofNat 8)), .x 44),
  (.bin .eql (.x 40) (.x 44), .b true)]
noncomputable def tab41 : Tab := { tabk with hyp := hy41 }
theorem run41 (e : Nat) : okB (call tab41 9000 5 [.ag [.x 0, .x 1, .x 2, .x 3], .x 4, .x 5] ⟨H0 e , 7, 0, 0⟩) = true := by kernel_rfl
def nu41 (rt : Int) (ri : Int) (c : List UInt8) (rp : Int) (s : List UInt8) (n : Int) : List Value := [.int .i64 (rt),
  .int .i64 (ri),
  St' c,
  .int .i64 (rp),
  St' s,
  .int .i64 (n),
  .int .i64 ((s.length : Int)),
  .int .i64 ((c.length : Int)),
  .int .u8 (bt s 0),
  .int .u8 (bt s 4),
  .int .i64 ((bt s 4)),
  .int .i64 ((bt s 4) * 256),
  .int .i64 ((bt s 4) * 256 + 8),
  .int .u8 (bt s 5),
  .int .i64 ((bt s 5)),
  .int .i64 ((bt s 4) * 256 + (bt s 5) + 8),
  .int .u8 (bt s 6),
  .int .i64 ((bt s 6)),
  .int .i64 ((bt s 4) * 256 + (bt s 5) + (bt s 6) + 8),
  .int .u8 (bt s 1),
  .int .i64 ((bt s 1)),
  .int .u8 (bt s 2),
  .int .i64 ((bt s 2)),
  .int .i64 ((bt s 2) * 256),
  .int .u8 (bt s 3),
  .int .i64 ((bt s 3)),
  .int .i64 ((bt s 2) * 256 + (bt s 3)),
  .int .i64 ((bt s 4) * 256 + (bt s 5) + 8),
  St' ((List.take ((bt s 4) * 256 + (bt s 5) + 8 - (8)).toNat (List.drop (Int.toNat 8) s))),
  St' ((List.take ((s.length : Int) - ((bt s 4) * 256 + (bt s 5) + (bt s 6) + 8)).toNat (List.drop ((bt s 4) * 256 + (bt s 5) + (bt s 6) + 8).toNat s))),
  .int .i64 ((bt s 4) * 256),
  .int .i64 ((bt s 4) * 256 + (bt s 5)),
  .int .i64 ((bt s 4) * 256 + (bt s 5) + 8),
  .int .i64 ((bt s 4) * 256 + (bt s 5) + (bt s 6) + 8),
  .int .i64 ((bt s 2) * 256),
  .int .i64 ((bt s 2) * 256 + (bt s 3)),
  St' ((List.take ((bt s 4) * 256 + (bt s 5) + 8 - (8)).toNat (List.drop (Int.toNat 8) s))),
  St' ((List.take ((s.length : Int) - ((bt s 4) * 256 + (bt s 5) + (bt s 6) + 8)).toNat (List.drop ((bt s 4) * 256 + (bt s 5) + (bt s 6) + 8).toNat s))),
  .int .i64 (max n 0),
  .int .i64 (-((max n 0))),
  .int .i64 ((-((max n 0))) % 8),
  .int .i64 (max 0 n),
  .int .i64 ((max 0 n) % 8),
  .int .i64 (8 - ((max 0 n) % 8)),
  .int .i64 ((8 - ((max 0 n) % 8)) % 8)]
theorem one41 (rt : Int) (ri : Int) (c : List UInt8) (rp : Int) (s : List UInt8) (n : Int) : ∀ j, (nuL (nu41 rt ri c rp s n) j).oneCell' = true := nuL_one (l := nu41 rt ri c rp s n) rfl
set_option maxHeartbeats 2000000 in
theorem hyOk41 (rt : Int) (ri : Int) (c : List UInt8) (rp : Int) (s : List UInt8) (n : Int) (b0 : -9223372036854775808 ≤ rt) (b1 : rt ≤ 9223372036854775807) (b2 : -9223372036854775808 ≤ ri) (b3 : ri ≤ 9223372036854775807) (b4 : c.length ≤ 9223372036854775807) (b5 : -9223372036854775808 ≤ rp) (b6 : rp ≤ 9223372036854775807) (b7 : s.length ≤ 9223372036854775807) (b8 : -9223372036854775808 ≤ n) (b9 : n ≤ 9223372036854775807) (h0 : ¬ (3000 < (s.length : Int))) (h1 : ¬ (70000 < (c.length : Int))) (h2 : ¬ ((s.length : Int) = 0)) (h3 : bt s 0 = 1) (h4 : ¬ ((s.length : Int) < 8)) (h5 : ¬ ((s.length : Int) < (bt s 4) * 256 + (bt s 5) + (bt s 6) + 8)) (h6 : ¬ (bt s 1 = 0)) (h9 : 1 ≤ rt) (h10 : rt ≤ 255) (h11 : 0 ≤ ri) (h12 : ri ≤ 65535) (h13 : (c.length : Int) ≤ 65535) (h14 : ¬ (0 ≤ rp)) : ∀ k r, (k, r) ∈ hy41 → HOk (cx (nuL (nu41 rt ri c rp s n)) (one41 rt ri c rp s n) 1 laidE laidE_stab) k r := by
  have := bt_lo s 0; have := bt_hi s 0
  have := bt_lo s 4; have := bt_hi s 4
  have := bt_lo s 5; have := bt_hi s 5
  have := bt_lo s 6; have := bt_hi s 6
  have := bt_lo s 1; have := bt_hi s 1
  have := bt_lo s 2; have := bt_hi s 2
  have := bt_lo s 3; have := bt_hi s 3
  unfold hy41
  refine hcons (kLenE (isX rfl) (denX rfl) (by first | omega | (simp only [List.length_append, List.length_cons, List.length_nil, List.length_take, List.length_drop, List.length_replicate, Int.natCast_add] at *; omega))) ?_
  refine hcons (kGt (isX rfl) (isZ (m := 3000) rfl) (decide_eq_false (by omega))) ?_
  refine hcons (kLenE (isX rfl) (denX rfl) (by first | omega | (simp only [List.length_append, List.length_cons, List.length_nil, List.length_take, List.length_drop, List.length_replicate, Int.natCast_add] at *; omega))) ?_
  refine hcons (kGt (isX rfl) (isZ (m := 70000) rfl) (decide_eq_false (by omega))) ?_
  refine hcons (kNeS (isX rfl) (isSx (l := ([] : List UInt8)) 0 0 rfl) (bnT (by first | exact nilT (by first | omega | (simp only [List.length_append, List.length_cons, List.length_nil, List.length_take, List.length_drop, List.length_replicate, Int.natCast_add] at *; omega)) | exact nilF (by first | omega | (simp only [List.length_append, List.length_cons, List.length_nil, List.length_take, List.length_drop, List.length_replicate, Int.natCast_add] at *; omega)) | exact nilT' (by first | omega | (simp only [List.length_append, List.length_cons, List.length_nil, List.length_take, List.length_drop, List.length_replicate, Int.natCast_add] at *; omega)) | exact nilF' (by first | omega | (simp only [List.length_append, List.length_cons, List.length_nil, List.length_take, List.length_drop, List.length_replicate, Int.natCast_add] at *; omega))))) ?_
  refine hcons (kIdxE (i := 0) (isX rfl) (isZ (m := 0) rfl) (denX rfl) rfl (by first | omega | (simp only [List.length_append, List.length_cons, List.length_nil, List.length_take, List.length_drop, List.length_replicate, Int.natCast_add] at *; omega)) rfl) ?_
  refine hcons (kNeI (isX rfl) (isZ (m := 1) rfl) (neF (by omega))) ?_
  refine hcons (kLt (isX rfl) (isZ (m := 8) rfl) (decide_eq_false (by omega))) ?_
  refine hcons (kIdxE (i := 4) (isX rfl) (isZ (m := 4) rfl) (denX rfl) rfl (by first | omega | (simp only [List.length_append, List.length_cons, List.length_nil, List.length_take, List.length_drop, List.length_replicate, Int.natCast_add] at *; omega)) rfl) ?_
  refine hcons (kConvF (isX rfl) tu3 (denX rfl) (fI64 (by omega) (by omega))) ?_
  refine hcons (kShlM 8 256 rfl (isX rfl) (isZ (m := 8) rfl) (denX rfl) rfl (by decide) (by omega) (fI64 (by omega) (by omega))) ?_
  refine hcons (kAdd (isZ (m := 8) rfl) (isX rfl) (denX rfl) (by omega) (fI64 (by omega) (by omega))) ?_
  refine hcons (kIdxE (i := 5) (isX rfl) (isZ (m := 5) rfl) (denX rfl) rfl (by first | omega | (simp only [List.length_append, List.length_cons, List.length_nil, List.length_take, List.length_drop, List.length_replicate, Int.natCast_add] at *; omega)) rfl) ?_
  refine hcons (kConvF (isX rfl) tu3 (denX rfl) (fI64 (by omega) (by omega))) ?_
  refine hcons (kAdd (isX rfl) (isX rfl) (denX rfl) (by omega) (fI64 (by omega) (by omega))) ?_
  refine hcons (kIdxE (i := 6) (isX rfl) (isZ (m := 6) rfl) (denX rfl) rfl (by first | omega | (simp only [List.length_append, List.length_cons, List.length_nil, List.length_take, List.length_drop, List.length_replicate, Int.natCast_add] at *; omega)) rfl) ?_
  refine hcons (kConvF (isX rfl) tu3 (denX rfl) (fI64 (by omega) (by omega))) ?_
  refine hcons (kAdd (isX rfl) (isX rfl) (denX rfl) (by omega) (fI64 (by omega) (by omega))) ?_
  refine hcons (kLt (isX rfl) (isX rfl) (decide_eq_false (by omega))) ?_
  refine hcons (kIdxE (i := 1) (isX rfl) (isZ (m := 1) rfl) (denX rfl) rfl (by first | omega | (simp only [List.length_append, List.length_cons, List.length_nil, List.length_take, List.length_drop, List.length_replicate, Int.natCast_add] at *; omega)) rfl) ?_
  refine hcons (kEqI (isX rfl) (isZ (m := 0) rfl) (decide_eq_false (by omega))) ?_
  refine hcons (kConvF (isX rfl) tu3 (denX rfl) (fI64 (by omega) (by omega))) ?_
  refine hcons (kIdxE (i := 2) (isX rfl) (isZ (m := 2) rfl) (denX rfl) rfl (by first | omega | (simp only [List.length_append, List.length_cons, List.length_nil, List.length_take, List.length_drop, List.length_replicate, Int.natCast_add] at *; omega)) rfl) ?_
  refine hcons (kConvF (isX rfl) tu3 (denX rfl) (fI64 (by omega) (by omega))) ?_
  refine hcons (kShlM 8 256 rfl (isX rfl) (isZ (m := 8) rfl) (denX rfl) rfl (by decide) (by omega) (fI64 (by omega) (by omega))) ?_
  refine hcons (kIdxE (i := 3) (isX rfl) (isZ (m := 3) rfl) (denX rfl) rfl (by first | omega | (simp only [List.length_append, List.length_cons, List.length_nil, List.length_take, List.length_drop, List.length_replicate, Int.natCast_add] at *; omega)) rfl) ?_
  refine hcons (kConvF (isX rfl) tu3 (denX rfl) (fI64 (by omega) (by omega))) ?_
  refine hcons (kOrM 8 256 rfl (isX rfl) (isX rfl) (denX rfl) (by omega) (by omega) (fI64 (by omega) (by omega)) (fI64 (by omega) (by omega)) (by omega) (by omega) (by omega) (fI64 (by omega) (by omega))) ?_
  refine hcons (kSub (isX rfl) (isX rfl) (denX rfl) (by omega) (fI64 (by omega) (by omega))) ?_
  refine hcons (kMid (P := 8) (Q := (bt s 4) * 256 + (bt s 5) + 8) (isX rfl) (.inr ⟨_, _, rfl, (isZ (m := 8) rfl)⟩) (.inr ⟨_, _, rfl, (isX rfl)⟩) (by first | omega | (simp only [List.length_append, List.length_cons, List.length_nil, List.length_take, List.length_drop, List.length_replicate, Int.natCast_add] at *; omega)) (by first | omega | (simp only [List.length_append, List.length_cons, List.length_nil, List.length_take, List.length_drop, List.length_replicate, Int.natCast_add] at *; omega)) (by first | omega | (simp only [List.length_append, List.length_cons, List.length_nil, List.length_take, List.length_drop, List.length_replicate, Int.natCast_add] at *; omega)) (denX rfl)) ?_
  refine hcons (kMid (P := (bt s 4) * 256 + (bt s 5) + (bt s 6) + 8) (Q := (s.length : Int)) (isX rfl) (.inr ⟨_, _, rfl, (isX rfl)⟩) (.inl ⟨rfl, by first | omega | (simp only [List.length_append, List.length_cons, List.length_nil, List.length_take, List.length_drop, List.length_replicate, Int.natCast_add] at *; omega)⟩) (by first | omega | (simp only [List.length_append, List.length_cons, List.length_nil, List.length_take, List.length_drop, List.length_replicate, Int.natCast_add] at *; omega)) (by first | omega | (simp only [List.length_append, List.length_cons, List.length_nil, List.length_take, List.length_drop, List.length_replicate, Int.natCast_add] at *; omega)) (by first | omega | (simp only [List.length_append, List.length_cons, List.length_nil, List.length_take, List.length_drop, List.length_replicate, Int.natCast_add] at *; omega)) (denX rfl)) ?_
  refine hcons (kGt (isX rfl) (isZ (m := 0) rfl) (decide_eq_true (by omega))) ?_
  refine hcons (kMul (isX rfl) (isZ (m := 256) rfl) (denX rfl) (by omega) (fI64 (by omega) (by omega))) ?_
  refine hcons (kAdd (isX rfl) (isX rfl) (denX rfl) (by omega) (fI64 (by omega) (by omega))) ?_
  refine hcons (kAdd (isZ (m := 8) rfl) (isX rfl) (denX rfl) (by omega) (fI64 (by omega) (by omega))) ?_
  refine hcons (kAdd (isX rfl) (isX rfl) (denX rfl) (by omega) (fI64 (by omega) (by omega))) ?_
  refine hcons (kLt (isX rfl) (isX rfl) (decide_eq_false (by omega))) ?_
  refine hcons (kMul (isX rfl) (isZ (m := 256) rfl) (denX rfl) (by omega) (fI64 (by omega) (by omega))) ?_
  refine hcons (kAdd (isX rfl) (isX rfl) (denX rfl) (by omega) (fI64 (by omega) (by omega))) ?_
  refine hcons (kMid (P := 8) (Q := (bt s 4) * 256 + (bt s 5) + 8) (isX rfl) (.inr ⟨_, _, rfl, (isZ (m := 8) rfl)⟩) (.inr ⟨_, _, rfl, (isX rfl)⟩) (by first | omega | (simp only [List.length_append, List.length_cons, List.length_nil, List.length_take, List.length_drop, List.length_replicate, Int.natCast_add] at *; omega)) (by first | omega | (simp only [List.length_append, List.length_cons, List.length_nil, List.length_take, List.length_drop, List.length_replicate, Int.natCast_add] at *; omega)) (by first | omega | (simp only [List.length_append, List.length_cons, List.length_nil, List.length_take, List.length_drop, List.length_replicate, Int.natCast_add] at *; omega)) (denX rfl)) ?_
  refine hcons (kMid (P := (bt s 4) * 256 + (bt s 5) + (bt s 6) + 8) (Q := (s.length : Int)) (isX rfl) (.inr ⟨_, _, rfl, (isX rfl)⟩) (.inl ⟨rfl, by first | omega | (simp only [List.length_append, List.length_cons, List.length_nil, List.length_take, List.length_drop, List.length_replicate, Int.natCast_add] at *; omega)⟩) (by first | omega | (simp only [List.length_append, List.length_cons, List.length_nil, List.length_take, List.length_drop, List.length_replicate, Int.natCast_add] at *; omega)) (by first | omega | (simp only [List.length_append, List.length_cons, List.length_nil, List.length_take, List.length_drop, List.length_replicate, Int.natCast_add] at *; omega)) (by first | omega | (simp only [List.length_append, List.length_cons, List.length_nil, List.length_take, List.length_drop, List.length_replicate, Int.natCast_add] at *; omega)) (denX rfl)) ?_
  refine hcons (kGe (isX rfl) (isZ (m := 1) rfl) (decide_eq_true (by omega))) ?_
  refine hcons (kLe (isX rfl) (isZ (m := 255) rfl) (decide_eq_true (by omega))) ?_
  refine hcons (kGe (isX rfl) (isZ (m := 0) rfl) (decide_eq_true (by omega))) ?_
  refine hcons (kLe (isX rfl) (isZ (m := 65535) rfl) (decide_eq_true (by omega))) ?_
  refine hcons (kLe (isX rfl) (isZ (m := 65535) rfl) (decide_eq_true (by omega))) ?_
  refine hcons (kGe (isX rfl) (isZ (m := 0) rfl) (decide_eq_false (by omega))) ?_
  refine hcons (kEqT (isX rfl) (isX rfl) tu3 (decide_eq_true (by omega))) ?_
  refine hcons (kEqT (isX rfl) (isX rfl) tu3 (decide_eq_true (by omega))) ?_
  refine hcons (kEqTS (isX rfl) (isX rfl) tu9 (decide_eq_true rfl)) ?_
  refine hcons (kEqT (isX rfl) (isX rfl) tu3 (decide_eq_true (by omega))) ?_
  refine hcons (kEqS (isX rfl) (isX rfl) (decide_eq_true rfl)) ?_
  refine hcons (kMax (isX rfl) (isZ (m := 0) rfl) (denX rfl) rfl) ?_
  refine hcons (kNeg (isX rfl) (denX rfl) (by omega) (fI64 (by omega) (by omega))) ?_
  refine hcons (kAndG 3 8 rfl (by decide) (isX rfl) (isZ (m := 7) rfl) (denX rfl) (fI64 (by omega) (by omega)) rfl rfl (fI64 (by omega) (by omega))) ?_
  refine hcons (kMax (isZ (m := 0) rfl) (isX rfl) (denX rfl) rfl) ?_
  refine hcons (kRem (isX rfl) (isZ (m := 8) rfl) (denX rfl) (by omega) (by omega) rfl) ?_
  refine hcons (kSub (isZ (m := 8) rfl) (isX rfl) (denX rfl) (by omega) (fI64 (by omega) (by omega))) ?_
  refine hcons (kRem (isX rfl) (isZ (m := 8) rfl) (denX rfl) (by omega) (by omega) rfl) ?_
  refine hcons (kEqI (isX rfl) (isX rfl) (decide_eq_true (by omega))) ?_
  exact hnil
theorem path41 (rt : Int) (ri : Int) (c : List UInt8) (rp : Int) (s : List UInt8) (n : Int) (b0 : -9223372036854775808 ≤ rt) (b1 : rt ≤ 9223372036854775807) (b2 : -9223372036854775808 ≤ ri) (b3 : ri ≤ 9223372036854775807) (b4 : c.length ≤ 9223372036854775807) (b5 : -9223372036854775808 ≤ rp) (b6 : rp ≤ 9223372036854775807) (b7 : s.length ≤ 9223372036854775807) (b8 : -9223372036854775808 ≤ n) (b9 : n ≤ 9223372036854775807) (h0 : ¬ (3000 < (s.length : Int))) (h1 : ¬ (70000 < (c.length : Int))) (h2 : ¬ ((s.length : Int) = 0)) (h3 : bt s 0 = 1) (h4 : ¬ ((s.length : Int) < 8)) (h5 : ¬ ((s.length : Int) < (bt s 4) * 256 + (bt s 5) + (bt s 6) + 8)) (h6 : ¬ (bt s 1 = 0)) (h9 : 1 ≤ rt) (h10 : rt ≤ 255) (h11 : 0 ≤ ri) (h12 : ri ≤ 65535) (h13 : (c.length : Int) ≤ 65535) (h14 : ¬ (0 ≤ rp)) (w : World) (hl : laidE w) : Calls Tryd.prog 5 #[.agg #[.int .i64 rt, .int .i64 ri, St' c, .int .i64 rp], St' s, .int .i64 n] w fun e w' => e = .returned (.bool true) ∧ Go.AX.Below w.heap.size w w' := by
  obtain ⟨fi, hfi, hb⟩ : ∃ fi, tabk.fn.get 5 = some fi ∧ fi.body.isSome = true := ⟨_, rfl, by kernel_rfl⟩
  exact runP (tb := tab41) ((tabkOk (nuL (nu41 rt ri c rp s n)) (one41 rt ri c rp s n)).hyps (hyOk41 rt ri c rp s n b0 b1 b2 b3 b4 b5 b6 b7 b8 b9 h0 h1 h2 h3 h4 h5 h6 h9 h10 h11 h12 h13 h14)) rfl hfi hb (fun e => run41 e ) (args := [.agg #[.int .i64 rt, .int .i64 ri, St' c, .int .i64 rp], St' s, .int .i64 n]) (by simp only [RelL, Rel]; exact ⟨_, _, rfl, ⟨_, rfl, ⟨_, _, rfl, rfl, ⟨_, _, rfl, rfl, ⟨_, _, rfl, rfl, ⟨_, _, rfl, rfl, rfl⟩⟩⟩⟩⟩, ⟨_, _, rfl, rfl, ⟨_, _, rfl, rfl, rfl⟩⟩⟩) w hl
def hy42 : List (HK × AV) := [(.len (.x 4), .x 6),
  (.bin .gtr (.x 6) (.i .i64 (.ofNat 3000)), .b false),
  (.len (.x 2), .x 7),
  (.bin .gtr (.x 7) (.i .i64 (.ofNat 70000)), .b false),
  (.bin .neq (.x 4) (.s 0 0), .b true),
  (.idx (.x 4) (.i .i64 (.ofNat 0)), .x 8),
  (.bin .neq (.x 8) (.i .u8 (.ofNat 1)), .b false),
  (.bin .lss (.x 6) (.i .i64 (.ofNat 8)), .b false),
  (.idx (.x 4) (.i .i64 (.ofNat 4)), .x 9),
  (.conv 3 (.x 9), .x 10),
  (.bin .shl (.x 10) (.i .u64 (.ofNat 8)), .x 11),
  (.bin .add (.i .i64 (.ofNat 8)) (.x 11), .x 12),
  (.idx (.x 4) (.i .i64 (.ofNat 5)), .x 13),
  (.conv 3 (.x 13), .x 14),
  (.bin .add (.x 12) (.x 14), .x 15),
  (.idx (.x 4) (.i .i64 (.ofNat 6)), .x 16),
  (.conv 3 (.x 16), .x 17),
  (.bin .add (.x 15) (.x 17), .x 18),
  (.bin .lss (.x 6) (.x 18), .b false),
  (.idx (.x 4) (.i .i64 (.ofNat 1)), .x 19),
  (.bin .eql (.x 19) (.i .u8 (.ofNat 0)), .b true),
  (.bin .gtr (.x 6) (.i .i64 (.ofNat 0)), .b true),
  (.bin .mul (.x 10) (.i .i64 (.ofNat 256)), .x 20),
  (.bin .add (.x 20) (.x 14), .x 21),
  (.bin .add (.i .i64 (.ofNat 8)) (.x 21), .x 22),
  (.bin .add (.x 22) (.x 17), .x 23),
  (.bin .lss (.x 6) (.x 23), .b false),
  (.bin .geq (.x 0) (.i .i64 (.ofNat 1)), .b true),
  (.bin .leq (.x 0) (.i .i64 (.ofNat 255)), .b true),
  (.bin .geq (.x 1) (.i .i64 (.ofNat 0)), .b true),
  (.bin .leq (.x 1) (.i .i64 (.ofNat 65535)), .b true),
  (.bin .leq (.x 7) (.i .i64 (.ofNat 65535)), .b true),
  (.bin .geq (.x 3) (.i .i64 (.ofNat 0)), .b false),
  (.bin .eql (.x 4) (.x 4), .b true),
  (.mm true (.x 5) (.i .i64 (.ofNat 0)), .x 24),
  (.un .neg (.x 24), .x 25),
  (.bin .and (.x 25) (.i .i64 (.ofNat 7)), .x 26),
  (.mm true (.i .i64 (.ofNat 0)) (.x 5), .x 27),
  (.bin .rem (.x 27) (.i .i64 (.ofNat 8)), .x 28),
  (.bin .sub (.i .i64 (.ofNat 8)) (.x 28), .x 29),
  (.bin .rem (.x 29) (.i .i64 (.ofNat 8)), .x 30),
  (.bin .eql (.x 26) (.x 30), .b true)]
noncomputable def tab42 : Tab := { tabk with hyp := hy42 }
theorem run42 (e : Nat) : okB (call tab42 9000 5 [.ag [.x 0, .x 1, .x 2, .x 3], .x 4, .x 5] ⟨H0 e , 7, 0, 0⟩) = true := by kernel_rfl
def nu42 (rt : Int) (ri : Int) (c : List UInt8) (rp : Int) (s : List UInt8) (n : Int) : List Value := [.int .i64 (rt),
  .int .i64 (ri),
  St' c,
  .int .i64 (rp),
  St' s,
  .int .i64 (n),
  .int .i64 ((s.length : Int)),
  .int .i64 ((c.length : Int)),
  .int .u8 (bt s 0),
  .int .u8 (bt s 4),
  .int .i64 ((bt s 4)),
  .int .i64 ((bt s 4) * 256),
  .int .i64 ((bt s 4) * 256 + 8),
  .int .u8 (bt s 5),
  .int .i64 ((bt s 5)),
  .int .i64 ((bt s 4) * 256 + (bt s 5) + 8),
  .int .u8 (bt s 6),
  .int .i64 ((bt s 6)),
  .int .i64 ((bt s 4) * 256 + (bt s 5) + (bt s 6) + 8),
  .int .u8 (bt s 1),
  .int .i64 ((bt s 4) * 256),
  .int .i64 ((bt s 4) * 256 + (bt s 5)),
  .int .i64 ((bt s 4) * 256 + (bt s 5) + 8),
  .int .i64 ((bt s 4) * 256 + (bt s 5) + (bt s 6) + 8),
  .int .i64 (max n 0),
  .int .i64 (-((max n 0))),
  .int .i64 ((-((max n 0))) % 8),
  .int .i64 (max 0 n),
  .int .i64 ((max 0 n) % 8),
  .int .i64 (8 - ((max 0 n) % 8)),
  .int .i64 ((8 - ((max 0 n) % 8)) % 8)]
theorem one42 (rt : Int) (ri : Int) (c : List UInt8) (rp : Int) (s : List UInt8) (n : Int) : ∀ j, (nuL (nu42 rt ri c rp s n) j).oneCell' = true := nuL_one (l := nu42 rt ri c rp s n) rfl
set_option maxHeartbeats 2000000 in
theorem hyOk42 (rt : Int) (ri : Int) (c : List UInt8) (rp : Int) (s : List UInt8) (n : Int) (b0 : -9223372036854775808 ≤ rt) (b1 : rt ≤ 9223372036854775807) (b2 : -9223372036854775808 ≤ ri) (b3 : ri ≤ 9223372036854775807) (b4 : c.length ≤ 9223372036854775807) (b5 : -9223372036854775808 ≤ rp) (b6 : rp ≤ 9223372036854775807) (b7 : s.length ≤ 9223372036854775807) (b8 : -9223372036854775808 ≤ n) (b9 : n ≤ 9223372036854775807) (h0 : ¬ (3000 < (s.length : Int))) (h1 : ¬ (70000 < (c.length : Int))) (h2 : ¬ ((s.length : Int) = 0)) (h3 : bt s 0 = 1) (h4 : ¬ ((s.length : Int) < 8)) (h5 : ¬ ((s.length : Int) < (bt s 4) * 256 + (bt s 5) + (bt s 6) + 8)) (h6 : bt s 1 = 0) (h9 : 1 ≤ rt) (h10 : rt ≤ 255) (h11 : 0 ≤ ri) (h12 : ri ≤ 65535) (h13 : (c.length : Int) ≤ 65535) (h14 : ¬ (0 ≤ rp)) : ∀ k r, (k, r) ∈ hy42 → HOk (cx (nuL (nu42 rt ri c rp s n)) (one42 rt ri c rp s n) 1 laidE laidE_stab) k r := by
  have := bt_lo s 0; have := bt_hi s 0
  have := bt_lo s 4; have := bt_hi s 4
  have := bt_lo s 5; have := bt_hi s 5
  have := bt_lo s 6; have := bt_hi s 6
  have := bt_lo s 1; have := bt_hi s 1
  unfold hy42
  refine hcons (kLenE (isX rfl) (denX rfl) (by first | omega | (simp only [List.length_append, List.length_cons, List.length_nil, List.length_take, List.length_drop, List.length_replicate, Int.natCast_add] at *; omega))) ?_
  refine hcons (kGt (isX rfl) (isZ (m := 3000) rfl) (decide_eq_false (by omega))) ?_
  refine hcons (kLenE (isX rfl) (denX rfl) (by first | omega | (simp only [List.length_append, List.length_cons, List.length_nil, List.length_take, List.length_drop, List.length_replicate, Int.natCast_add] at *; omega))) ?_
  refine hcons (kGt (isX rfl) (isZ (m := 70000) rfl) (decide_eq_false (by omega))) ?_
  refine hcons (kNeS (isX rfl) (isSx (l := ([] : List UInt8)) 0 0 rfl) (bnT (by first | exact nilT (by first | omega | (simp only [List.length_append, List.length_cons, List.length_nil, List.length_take, List.length_drop, List.length_replicate, Int.natCast_add] at *; omega)) | exact nilF (by first | omega | (simp only [List.length_append, List.length_cons, List.length_nil, List.length_take, List.length_drop, List.length_replicate, Int.natCast_add] at *; omega)) | exact nilT' (by first | omega | (simp only [List.length_append, List.length_cons, List.length_nil, List.length_take, List.length_drop, List.length_replicate, Int.natCast_add] at *; omega)) | exact nilF' (by first | omega | (simp only [List.length_append, List.length_cons, List.length_nil, List.length_take, List.length_drop, List.length_replicate, Int.natCast_add] at *; omega))))) ?_
  refine hcons (kIdxE (i := 0) (isX rfl) (isZ (m := 0) rfl) (denX rfl) rfl (by first | omega | (simp only [List.length_append, List.length_cons, List.length_nil, List.length_take, List.length_drop, List.length_replicate, Int.natCast_add] at *; omega)) rfl) ?_
  refine hcons (kNeI (isX rfl) (isZ (m := 1) rfl) (neF (by omega))) ?_
  refine hcons (kLt (isX rfl) (isZ (m := 8) rfl) (decide_eq_false (by omega))) ?_
  refine hcons (kIdxE (i := 4) (isX rfl) (isZ (m := 4) rfl) (denX rfl) rfl (by first | omega | (simp only [List.length_append, List.length_cons, List.length_nil, List.length_take, List.length_drop, List.length_replicate, Int.natCast_add] at *; omega)) rfl) ?_
  refine hcons (kConvF (isX rfl) tu3 (denX rfl) (fI64 (by omega) (by omega))) ?_
  refine hcons (kShlM 8 256 rfl (isX rfl) (isZ (m := 8) rfl) (denX rfl) rfl (by decide) (by omega) (fI64 (by omega) (by omega))) ?_
  refine hcons (kAdd (isZ (m := 8) rfl) (isX rfl) (denX rfl) (by omega) (fI64 (by omega) (by omega))) ?_
  refine hcons (kIdxE (i := 5) (isX rfl) (isZ (m := 5) rfl) (denX rfl) rfl (by first | omega | (simp only [List.length_append, List.length_cons, List.length_nil, List.length_take, List.length_drop, List.length_replicate, Int.natCast_add] at *; omega)) rfl) ?_
  refine hcons (kConvF (isX rfl) tu3 (denX rfl) (fI64 (by omega) (by omega))) ?_
  refine hcons (kAdd (isX rfl) (isX rfl) (denX rfl) (by omega) (fI64 (by omega) (by omega))) ?_
  refine hcons (kIdxE (i := 6) (isX rfl) (isZ (m := 6) rfl) (denX rfl) rfl (by first | omega | (simp only [List.length_append, List.length_cons, List.length_nil, List.length_take, List.length_drop, List.length_replicate, Int.natCast_add] at *; omega)) rfl) ?_
  refine hcons (kConvF (isX rfl) tu3 (denX rfl) (fI64 (by omega) (by omega))) ?_
  refine hcons (kAdd (isX rfl) (isX rfl) (denX rfl) (by omega) (fI64 (by omega) (by omega))) ?_
  refine hcons (kLt (isX rfl) (isX rfl) (decide_eq_false (by omega))) ?_
  refine hcons (kIdxE (i := 1) (isX rfl) (isZ (m := 1) rfl) (denX rfl) rfl (by first | omega | (simp only [List.length_append, List.length_cons, List.length_nil, List.length_take, List.length_drop, List.length_replicate, Int.natCast_add] at *; omega)) rfl) ?_
  refine hcons (kEqI (isX rfl) (isZ (m := 0) rfl) (decide_eq_true (by omega))) ?_
  refine hcons (kGt (isX rfl) (isZ (m := 0) rfl) (decide_eq_true (by omega))) ?_
  refine hcons (kMul (isX rfl) (isZ (m := 256) rfl) (denX rfl) (by omega) (fI64 (by omega) (by omega))) ?_
  refine hcons (kAdd (isX rfl) (isX rfl) (denX rfl) (by omega) (fI64 (by omega) (by omega))) ?_
  refine hcons (kAdd (isZ (m := 8) rfl) (isX rfl) (denX rfl) (by omega) (fI64 (by omega) (by omega))) ?_
  refine hcons (kAdd (isX rfl) (isX rfl) (denX rfl) (by omega) (fI64 (by omega) (by omega))) ?_
  refine hcons (kLt (isX rfl) (isX rfl) (decide_eq_false (by omega))) ?_
  refine hcons (kGe (isX rfl) (isZ (m := 1) rfl) (decide_eq_true (by omega))) ?_
  refine hcons (kLe (isX rfl) (isZ (m := 255) rfl) (decide_eq_true (by omega))) ?_
  refine hcons (kGe (isX rfl) (isZ (m := 0) rfl) (decide_eq_true (by omega))) ?_
  refine hcons (kLe (isX rfl) (isZ (m := 65535) rfl) (decide_eq_true (by omega))) ?_
  refine hcons (kLe (isX rfl) (isZ (m := 65535) rfl) (decide_eq_true (by omega))) ?_
  refine hcons (kGe (isX rfl) (isZ (m := 0) rfl) (decide_eq_false (by omega))) ?_
  refine hcons (kEqS (isX rfl) (isX rfl) (decide_eq_true rfl)) ?_
  refine hcons (kMax (isX rfl) (isZ (m := 0) rfl) (denX rfl) rfl) ?_
  refine hcons (kNeg (isX rfl) (denX rfl) (by omega) (fI64 (by omega) (by omega))) ?_
  refine hcons (kAndG 3 8 rfl (by decide) (isX rfl) (isZ (m := 7) rfl) (denX rfl) (fI64 (by omega) (by omega)) rfl rfl (fI64 (by omega) (by omega))) ?_
  refine hcons (kMax (isZ (m := 0) rfl) (isX rfl) (denX rfl) rfl) ?_
  refine hcons (kRem (isX rfl) (isZ (m := 8) rfl) (denX rfl) (by omega) (by omega) rfl) ?_
  refine hcons (kSub (isZ (m := 8) rfl) (isX rfl) (denX rfl) (by omega) (fI64 (by omega) (by omega))) ?_
  refine hcons (kRem (isX rfl) (isZ (m := 8) rfl) (denX rfl) (by omega) (by omega) rfl) ?_
  refine hcons (kEqI (isX rfl) (isX rfl) (decide_eq_true (by omega))) ?_
  exact hnil
theorem path42 (rt : Int) (ri : Int) (c : List UInt8) (rp : Int) (s : List UInt8) (n : Int) (b0 : -9223372036854775808 ≤ rt) (b1 : rt ≤ 9223372036854775807) (b2 : -9223372036854775808 ≤ ri) (b3 : ri ≤ 9223372036854775807) (b4 : c.length ≤ 9223372036854775807) (b5 : -9223372036854775808 ≤ rp) (b6 : rp ≤ 9223372036854775807) (b7 : s.length ≤ 9223372036854775807) (b8 : -9223372036854775808 ≤ n) (b9 : n ≤ 9223372036854775807) (h0 : ¬ (3000 < (s.length : Int))) (h1 : ¬ (70000 < (c.length : Int))) (h2 : ¬ ((s.length : Int) = 0)) (h3 : bt s 0 = 1) (h4 : ¬ ((s.length : Int) < 8)) (h5 : ¬ ((s.length : Int) < (bt s 4) * 256 + (bt s 5) + (bt s 6) + 8)) (h6 : bt s 1 = 0) (h9 : 1 ≤ rt) (h10 : rt ≤ 255) (h11 : 0 ≤ ri) (h12 : ri ≤ 65535) (h13 : (c.length : Int) ≤ 65535) (h14 : ¬ (0 ≤ rp)) (w : World) (hl : laidE w) : Calls Tryd.prog 5 #[.agg #[.int .i64 rt, .int .i64 ri, St' c, .int .i64 rp], St' s, .int .i64 n] w fun e w' => e = .returned (.bool true) ∧ Go.AX.Below w.heap.size w w' := by
  obtain ⟨fi, hfi, hb⟩ : ∃ fi, tabk.fn.get 5 = some fi ∧ fi.body.isSome = true := ⟨_, rfl, by kernel_rfl⟩
  exact runP (tb := tab42) ((tabkOk (nuL (nu42 rt ri c rp s n)) (one42 rt ri c rp s n)).hyps (hyOk42 rt ri c rp s n b0 b1 b2 b3 b4 b5 b6 b7 b8 b9 h0 h1 h2 h3 h4 h5 h6 h9 h10 h11 h12 h13 h14)) rfl hfi hb (fun e => run42 e ) (args := [.agg #[.int .i64 rt, .int .i64 ri, St' c, .int .i64 rp], St' s, .int .i64 n]) (by simp only [RelL, Rel]; exact ⟨_, _, rfl, ⟨_, rfl, ⟨_, _, rfl, rfl, ⟨_, _, rfl, rfl, ⟨_, _, rfl, rfl, ⟨_, _, rfl, rfl, rfl⟩⟩⟩⟩⟩, ⟨_, _, rfl, rfl, ⟨_, _, rfl, rfl, rfl⟩⟩⟩) w hl
def hy43 : List (HK × AV) := [(.len (.x 4), .x 6),
  (.bin .gtr (.x 6) (.i .i64 (.ofNat 3000)), .b false),
  (.len (.x 2), .x 7),
  (.bin .gtr (.x 7) (.i .i64 (.ofNat 70000)), .b false),
  (.bin .neq (.x 4) (.s 0 0), .b true),
  (.idx (.x 4) (.i .i64 (.ofNat 0)), .x 8),
  (.bin .neq (.x 8) (.i .u8 (.ofNat 1)), .b false),
  (.bin .lss (.x 6) (.i .i64 (.ofNat 8)), .b false),
  (.idx (.x 4) (.i .i64 (.ofNat 4)), .x 9),
  (.conv 3 (.x 9), .x 10),
  (.bin .shl (.x 10) (.i .u64 (.ofNat 8)), .x 11),
  (.bin .add (.i .i64 (.ofNat 8)) (.x 11), .x 12),
  (.idx (.x 4) (.i .i64 (.ofNat 5)), .x 13),
  (.conv 3 (.x 13), .x 14),
  (.bin .add (.x 12) (.x 14), .x 15),
  (.idx (.x 4) (.i .i64 (.ofNat 6)), .x 16),
  (.conv 3 (.x 16), .x 17),
  (.bin .add (.x 15) (.x 17), .x 18),
  (.bin .lss (.x 6) (.x 18), .b true),
  (.bin .gtr (.x 6) (.i .i64 (.ofNat 0)), .b true),
  (.bin .mul (.x 10) (.i .i64 (.ofNat 256)), .x 19),
  (.bin .add (.x 19) (.x 14), .x 20),
  (.bin .add (.i .i64 (.ofNat 8)) (.x 20), .x 21),
  (.bin .add (.x 21) (.x 17), .x 22),
  (.bin .lss (.x 6) (.x 22), .b true),
  (.bin .geq (.x 0) (.i .i64 (.ofNat 1)), .b true),
  (.bin .leq (.x 0) (.i .i64 (.ofNat 255)), .b true),
  (.bin .geq (.x 1) (.i .i64 (.ofNat 0)), .b true),
  (.bin .leq (.x 1) (.i .i64 (.ofNat 65535)), .b true),
  (.bin .leq (.x 7) (.i .i64 (.ofNat 65535)), .b true),
  (.bin .geq (.x 3) (.i .i64 (.ofNat 0)), .b false),
  (.bin .eql (.x 4) (.x 4), .b true),
  (.mm true (.x 5) (.i .i64 (.ofNat 0)), .x 23),
  (.un .neg (.x 23), .x 24),
  (.bin .and (.x 24) (.i .i64 (.ofNat 7)), .x 25),
  (.mm true (.i .i64 (.ofNat 0)) (.x 5), .x 26),
  (.bin .rem (.x 26) (.i .i64 (.ofNat 8)), .x 27),
  (.bin .sub (.i .i64 (.ofNat 8)) (.x 27), .x 28),
  (.bin .rem (.x 28) (.i .i64 (.ofNat 8)), .x 29),
  (.bin .eql (.x 25) (.x 29), .b true)]
noncomputable def tab43 : Tab := { tabk with hyp := hy43 }
theorem run43 (e : Nat) : okB (call tab43 9000 5 [.ag [.x 0, .x 1, .x 2, .x 3], .x 4, .x 5] ⟨H0 e , 7, 0, 0⟩) = true := by kernel_rfl
def nu43 (rt : Int) (ri : Int) (c : List UInt8) (rp : Int) (s : List UInt8) (n : Int) : List Value := [.int .i64 (rt),
  .int .i64 (ri),
  St' c,
  .int .i64 (rp),
  St' s,
  .int .i64 (n),
  .int .i64 ((s.length : Int)),
  .int .i64 ((c.length : Int)),
  .int .u8 (bt s 0),
  .int .u8 (bt s 4),
  .int .i64 ((bt s 4)),
  .int .i64 ((bt s 4) * 256),
  .int .i64 ((bt s 4) * 256 + 8),
  .int .u8 (bt s 5),
  .int .i64 ((bt s 5)),
  .int .i64 ((bt s 4) * 256 + (bt s 5) + 8),
  .int .u8 (bt s 6),
  .int .i64 ((bt s 6)),
  .int .i64 ((bt s 4) * 256 + (bt s 5) + (bt s 6) + 8),
  .int .i64 ((bt s 4) * 256),
  .int .i64 ((bt s 4) * 256 + (bt s 5)),
  .int .i64 ((bt s 4) * 256 + (bt s 5) + 8),
  .int .i64 ((bt s 4) * 256 + (bt s 5) + (bt s 6) + 8),
  .int .i64 (max n 0),
  .int .i64 (-((max n 0))),
  .int .i64 ((-((max n 0))) % 8),
  .int .i64 (max 0 n),
  .int .i64 ((max 0 n) % 8),
  .int .i64 (8 - ((max 0 n) % 8)),
  .int .i64 ((8 - ((max 0 n) % 8)) % 8)]
theorem one43 (rt : Int) (ri : Int) (c : List UInt8) (rp : Int) (s : List UInt8) (n : Int) : ∀ j, (nuL (nu43 rt ri c rp s n) j).oneCell' = true := nuL_one (l := nu43 rt ri c rp s n) rfl
set_option maxHeartbeats 2000000 in
theorem hyOk43 (rt : Int) (ri : Int) (c : List UInt8) (rp : Int) (s : List UInt8) (n : Int) (b0 : -9223372036854775808 ≤ rt) (b1 : rt ≤ 9223372036854775807) (b2 : -9223372036854775808 ≤ ri) (b3 : ri ≤ 9223372036854775807) (b4 : c.length ≤ 9223372036854775807) (b5 : -9223372036854775808 ≤ rp) (b6 : rp ≤ 9223372036854775807) (b7 : s.length ≤ 9223372036854775807) (b8 : -9223372036854775808 ≤ n) (b9 : n ≤ 9223372036854775807) (h0 : ¬ (3000 < (s.length : Int))) (h1 : ¬ (70000 < (c.length : Int))) (h2 : ¬ ((s.length : Int) = 0)) (h3 : bt s 0 = 1) (h4 : ¬ ((s.length : Int) < 8)) (h5 : (s.length : Int) < (bt s 4) * 256 + (bt s 5) + (bt s 6) + 8) (h8 : 1 ≤ rt) (h9 : rt ≤ 255) (h10 : 0 ≤ ri) (h11 : ri ≤ 65535) (h12 : (c.length : Int) ≤ 65535) (h13 : ¬ (0 ≤ rp)) : ∀ k r, (k, r) ∈ hy43 → HOk (cx (nuL (nu43 rt ri c rp s n)) (one43 rt ri c rp s n) 1 laidE laidE_stab) k r := by
  have := bt_lo s 0; have := bt_hi s 0
  have := bt_lo s 4; have := bt_hi s 4
  have := bt_lo s 5; have := bt_hi s 5
  have := bt_lo s 6; have := bt_hi s 6
  unfold hy43
  refine hcons (kLenE (isX rfl) (denX rfl) (by first | omega | (simp only [List.length_append, List.length_cons, List.length_nil, List.length_take, List.length_drop, List.length_replicate, Int.natCast_add] at *; omega))) ?_
  refine hcons (kGt (isX rfl) (isZ (m := 3000) rfl) (decide_eq_false (by omega))) ?_
  refine hcons (kLenE (isX rfl) (denX rfl) (by first | omega | (simp only [List.length_append, List.length_cons, List.length_nil, List.length_take, List.length_drop, List.length_replicate, Int.natCast_add] at *; omega))) ?_
  refine hcons (kGt (isX rfl) (isZ (m := 70000) rfl) (decide_eq_false (by omega))) ?_
  refine hcons (kNeS (isX rfl) (isSx (l := ([] : List UInt8)) 0 0 rfl) (bnT (by first | exact nilT (by first | omega | (simp only [List.length_append, List.length_cons, List.length_nil, List.length_take, List.length_drop, List.length_replicate, Int.natCast_add] at *; omega)) | exact nilF (by first | omega | (simp only [List.length_append, List.length_cons, List.length_nil, List.length_take, List.length_drop, List.length_replicate, Int.natCast_add] at *; omega)) | exact nilT' (by first | omega | (simp only [List.length_append, List.length_cons, List.length_nil, List.length_take, List.length_drop, List.length_replicate, Int.natCast_add] at *; omega)) | exact nilF' (by first | omega | (simp only [List.length_append, List.length_cons, List.length_nil, List.length_take, List.length_drop, List.length_replicate, Int.natCast_add] at *; omega))))) ?_
  refine hcons (kIdxE (i := 0) (isX rfl) (isZ (m := 0) rfl) (denX rfl) rfl (by first | omega | (simp only [List.length_append, List.length_cons, List.length_nil, List.length_take, List.length_drop, List.length_replicate, Int.natCast_add] at *; omega)) rfl) ?_
  refine hcons (kNeI (isX rfl) (isZ (m := 1) rfl) (neF (by omega))) ?_
  refine hcons (kLt (isX rfl) (isZ (m := 8) rfl) (decide_eq_false (by omega))) ?_
  refine hcons (kIdxE (i := 4) (isX rfl) (isZ (m := 4) rfl) (denX rfl) rfl (by first | omega | (simp only [List.length_append, List.length_cons, List.length_nil, List.length_take, List.length_drop, List.length_replicate, Int.natCast_add] at *; omega)) rfl) ?_
  refine hcons (kConvF (isX rfl) tu3 (denX rfl) (fI64 (by omega) (by omega))) ?_
  refine hcons (kShlM 8 256 rfl (isX rfl) (isZ (m := 8) rfl) (denX rfl) rfl (by decide) (by omega) (fI64 (by omega) (by omega))) ?_
  refine hcons (kAdd (isZ (m := 8) rfl) (isX rfl) (denX rfl) (by omega) (fI64 (by omega) (by omega))) ?_
  refine hcons (kIdxE (i := 5) (isX rfl) (isZ (m := 5) rfl) (denX rfl) rfl (by first | omega | (simp only [List.length_append, List.length_cons, List.length_nil, List.length_take, List.length_drop, List.length_replicate, Int.natCast_add] at *; omega)) rfl) ?_
  refine hcons (kConvF (isX rfl) tu3 (denX rfl) (fI64 (by omega) (by omega))) ?_
  refine hcons (kAdd (isX rfl) (isX rfl) (denX rfl) (by omega) (fI64 (by omega) (by omega))) ?_
  refine hcons (kIdxE (i := 6) (isX rfl) (isZ (m := 6) rfl) (denX rfl) rfl (by first | omega | (simp only [List.length_append, List.length_cons, List.length_nil, List.length_take, List.length_drop, List.length_replicate, Int.natCast_add] at *; omega)) rfl) ?_
  refine hcons (kConvF (isX rfl) tu3 (denX rfl) (fI64 (by omega) (by omega))) ?_
  refine hcons (kAdd (isX rfl) (isX rfl) (denX rfl) (by omega) (fI64 (by omega) (by omega))) ?_
  refine hcons (kLt (isX rfl) (isX rfl) (decide_eq_true (by omega))) ?_
  refine hcons (kGt (isX rfl) (isZ (m := 0) rfl) (decide_eq_true (by omega))) ?_
  refine hcons (kMul (isX rfl) (isZ (m := 256) rfl) (denX rfl) (by omega) (fI64 (by omega) (by omega))) ?_
  refine hcons (kAdd (isX rfl) (isX rfl) (denX rfl) (by omega) (fI64 (by omega) (by omega))) ?_
  refine hcons (kAdd (isZ (m := 8) rfl) (isX rfl) (denX rfl) (by omega) (fI64 (by omega) (by omega))) ?_
  refine hcons (kAdd (isX rfl) (isX rfl) (denX rfl) (by omega) (fI64 (by omega) (by omega))) ?_
  refine hcons (kLt (isX rfl) (isX rfl) (decide_eq_true (by omega))) ?_
  refine hcons (kGe (isX rfl) (isZ (m := 1) rfl) (decide_eq_true (by omega))) ?_
  refine hcons (kLe (isX rfl) (isZ (m := 255) rfl) (decide_eq_true (by omega))) ?_
  refine hcons (kGe (isX rfl) (isZ (m := 0) rfl) (decide_eq_true (by omega))) ?_
  refine hcons (kLe (isX rfl) (isZ (m := 65535) rfl) (decide_eq_true (by omega))) ?_
  refine hcons (kLe (isX rfl) (isZ (m := 65535) rfl) (decide_eq_true (by omega))) ?_
  refine hcons (kGe (isX rfl) (isZ (m := 0) rfl) (decide_eq_false (by omega))) ?_
  refine hcons (kEqS (isX rfl) (isX rfl) (decide_eq_true rfl)) ?_
  refine hcons (kMax (isX rfl) (isZ (m := 0) rfl) (denX rfl) rfl) ?_
  refine hcons (kNeg (isX rfl) (denX rfl) (by omega) (fI64 (by omega) (by omega))) ?_
  refine hcons (kAndG 3 8 rfl (by decide) (isX rfl) (isZ (m := 7) rfl) (denX rfl) (fI64 (by omega) (by omega)) rfl rfl (fI64 (by omega) (by omega))) ?_
  refine hcons (kMax (isZ (m := 0) rfl) (isX rfl) (denX rfl) rfl) ?_
  refine hcons (kRem (isX rfl) (isZ (m := 8) rfl) (denX rfl) (by omega) (by omega) rfl) ?_
  refine hcons (kSub (isZ (m := 8) rfl) (isX rfl) (denX rfl) (by omega) (fI64 (by omega) (by omega))) ?_
  refine hcons (kRem (isX rfl) (isZ (m := 8) rfl) (denX rfl) (by omega) (by omega) rfl) ?_
  refine hcons (kEqI (isX rfl) (isX rfl) (decide_eq_true (by omega))) ?_
  exact hnil
theorem path43 (rt : Int) (ri : Int) (c : List UInt8) (rp : Int) (s : List UInt8) (n : Int) (b0 : -9223372036854775808 ≤ rt) (b1 : rt ≤ 9223372036854775807) (b2 : -9223372036854775808 ≤ ri) (b3 : ri ≤ 9223372036854775807) (b4 : c.length ≤ 9223372036854775807) (b5 : -9223372036854775808 ≤ rp) (b6 : rp ≤ 9223372036854775807) (b7 : s.length ≤ 9223372036854775807) (b8 : -9223372036854775808 ≤ n) (b9 : n ≤ 9223372036854775807) (h0 : ¬ (3000 < (s.length : Int))) (h1 : ¬ (70000 < (c.length : Int))) (h2 : ¬ ((s.length : Int) = 0)) (h3 : bt s 0 = 1) (h4 : ¬ ((s.length : Int) < 8)) (h5 : (s.length : Int) < (bt s 4) * 256 + (bt s 5) + (bt s 6) + 8) (h8 : 1 ≤ rt) (h9 : rt ≤ 255) (h10 : 0 ≤ ri) (h11 : ri ≤ 65535) (h12 : (c.length : Int) ≤ 65535) (h13 : ¬ (0 ≤ rp)) (w : World) (hl : laidE w) : Calls Tryd.prog 5 #[.agg #[.int .i64 rt, .int .i64 ri, St' c, .int .i64 rp], St' s, .int .i64 n] w fun e w' => e = .returned (.bool true) ∧ Go.AX.Below w.heap.size w w' := by
  obtain ⟨fi, hfi, hb⟩ : ∃ fi, tabk.fn.get 5 = some fi ∧ fi.body.isSome = true := ⟨_, rfl, by kernel_rfl⟩
  exact runP (tb := tab43) ((tabkOk (nuL (nu43 rt ri c rp s n)) (one43 rt ri c rp s n)).hyps (hyOk43 rt ri c rp s n b0 b1 b2 b3 b4 b5 b6 b7 b8 b9 h0 h1 h2 h3 h4 h5 h8 h9 h10 h11 h12 h13)) rfl hfi hb (fun e => run43 e ) (args := [.agg #[.int .i64 rt, .int .i64 ri, St' c, .int .i64 rp], St' s, .int .i64 n]) (by simp only [RelL, Rel]; exact ⟨_, _, rfl, ⟨_, rfl, ⟨_, _, rfl, rfl, ⟨_, _, rfl, rfl, ⟨_, _, rfl, rfl, ⟨_, _, rfl, rfl, rfl⟩⟩⟩⟩⟩, ⟨_, _, rfl, rfl, ⟨_, _, rfl, rfl, rfl⟩⟩⟩) w hl
def hy44 : List (HK × AV) := [(.len (.x 4), .x 6),
  (.bin .gtr (.x 6) (.i .i64 (.ofNat 3000)), .b false),
  (.len (.x 2), .x 7),
  (.bin .gtr (.x 7) (.i .i64 (.ofNat 70000)), .b false),
  (.bin .neq (.x 4) (.s 0 0), .b false),
  (.bin .lss (.x 6) (.i .i64 (.ofNat 8)), .b true),
  (.bin .gtr (.x 6) (.i .i64 (.ofNat 0)), .b false),
  (.bin .geq (.x 0) (.i .i64 (.ofNat 1)), .b true),
  (.bin .leq (.x 0) (.i .i64 (.ofNat 255)), .b true),
  (.bin .geq (.x 1) (.i .i64 (.ofNat 0)), .b true),
  (.bin .leq (.x 1) (.i .i64 (.ofNat 65535)), .b true),
  (.bin .leq (.x 7) (.i .i64 (.ofNat 65535)), .b true),
  (.bin .geq (.x 3) (.i .i64 (.ofNat 0)), .b true),
  (.bin .leq (.x 3) (.i .i64 (.ofNat 255)), .b false),
  (.bin .eql (.x 4) (.x 4), .b true),
  (.mm true (.x 5) (.i .i64 (.ofNat 0)), .x 8),
  (.un .neg (.x 8), .x 9),
  (.bin .and (.x 9) (.i .i64 (.ofNat 7)), .x 10),
  (.mm true (.i .i64 (.ofNat 0)) (.x 5), .x 11),
  (.bin .rem (.x 11) (.i .i64 (.ofNat 8)), .x 12),
  (.bin .sub (.i .i64 (.ofNat 8)) (.x 12), .x 13),
  (.bin .rem (.x 13) (.i .i64 (.ofNat 8)), .x 14),
  (.bin .eql (.x 10) (.x 14), .b true)]
noncomputable def tab44 : Tab := { tabk with hyp := hy44 }
theorem run44 (e : Nat) : okB (call tab44 9000 5 [.ag [.x 0, .x 1, .x 2, .x 3], .x 4, .x 5] ⟨H0 e , 7, 0, 0⟩) = true := by kernel_rfl
def nu44 (rt : Int) (ri : Int) (c : List UInt8) (rp : Int) (s : List UInt8) (n : Int) : List Value := [.int .i64 (rt),
  .int .i64 (ri),
  St' c,
  .int .i64 (rp),
  St' s,
  .int .i64 (n),
  .int .i64 ((s.length : Int)),
  .int .i64 ((c.length : Int)),
  .int .i64 (max n 0),
  .int .i64 (-((max n 0))),
  .int .i64 ((-((max n 0))) % 8),
  .int .i64 (max 0 n),
  .int .i64 ((max 0 n) % 8),
  .int .i64 (8 - ((max 0 n) % 8)),
  .int .i64 ((8 - ((max 0 n) % 8)) % 8)]
theorem one44 (rt : Int) (ri : Int) (c : List UInt8) (rp : Int) (s : List UInt8) (n : Int) : ∀ j, (nuL (nu44 rt ri c rp s n) j).oneCell' = true := nuL_one (l := nu44 rt ri c rp s n) rfl
set_option maxHeartbeats 2000000 in
theorem hyOk44 (rt : Int) (ri : Int) (c : List UInt8) (rp : Int) (s : List UInt8) (n : Int) (b0 : -9223372036854775808 ≤ rt) (b1 : rt ≤ 9223372036854775807) (b2 : -9223372036854775808 ≤ ri) (b3 : ri ≤ 9223372036854775807) (b4 : c.length ≤ 9223372036854775807) (b5 : -9223372036854775808 ≤ rp) (b6 : rp ≤ 9223372036854775807) (b7 : s.length ≤ 9223372036854775807) (b8 : -9223372036854775808 ≤ n) (b9 : n ≤ 9223372036854775807) (h0 : ¬ (3000 < (s.length : Int))) (h1 : ¬ (70000 < (c.length : Int))) (h2 : (s.length : Int) = 0) (h5 : 1 ≤ rt) (h6 : rt ≤ 255) (h7 : 0 ≤ ri) (h8 : ri ≤ 65535) (h9 : (c.length : Int) ≤ 65535) (h10 : 0 ≤ rp) (h11 : ¬ (rp ≤ 255)) : ∀ k r, (k, r) ∈ hy44 → HOk (cx (nuL (nu44 rt ri c rp s n)) (one44 rt ri c rp s n) 1 laidE laidE_stab) k r := by
  unfold hy44
  refine hcons (kLenE (isX rfl) (denX rfl) (by first | omega | (simp only [List.length_append, List.length_cons, List.length_nil, List.length_take, List.length_drop, List.length_replicate, Int.natCast_add] at *; omega))) ?_
  refine hcons (kGt (isX rfl) (isZ (m := 3000) rfl) (decide_eq_false (by omega))) ?_
  refine hcons (kLenE (isX rfl) (denX rfl) (by first | omega | (simp only [List.length_append, List.length_cons, List.length_nil, List.length_take, List.length_drop, List.length_replicate, Int.natCast_add] at *; omega))) ?_
  refine hcons (kGt (isX rfl) (isZ (m := 70000) rfl) (decide_eq_false (by omega))) ?_
  refine hcons (kNeS (isX rfl) (isSx (l := ([] : List UInt8)) 0 0 rfl) (bnF (by first | exact nilT (by first | omega | (simp only [List.length_append, List.length_cons, List.length_nil, List.length_take, List.length_drop, List.length_replicate, Int.natCast_add] at *; omega)) | exact nilF (by first | omega | (simp only [List.length_append, List.length_cons, List.length_nil, List.length_take, List.length_drop, List.length_replicate, Int.natCast_add] at *; omega)) | exact nilT' (by first | omega | (simp only [List.length_append, List.length_cons, List.length_nil, List.length_take, List.length_drop, List.length_replicate, Int.natCast_add] at *; omega)) | exact nilF' (by first | omega | (simp only [List.length_append, List.length_cons, List.length_nil, List.length_take, List.length_drop, List.length_replicate, Int.natCast_add] at *; omega))))) ?_
  refine hcons (kLt (isX rfl) (isZ (m := 8) rfl) (decide_eq_true (by omega))) ?_
  refine hcons (kGt (isX rfl) (isZ (m := 0) rfl) (decide_eq_false (by omega))) ?_
  refine hcons (kGe (isX rfl) (isZ (m := 1) rfl) (decide_eq_true (by omega))) ?_
  refine hcons (kLe (isX rfl) (isZ (m := 255) rfl) (decide_eq_true (by omega))) ?_
  refine hcons (kGe (isX rfl) (isZ (m := 0) rfl) (decide_eq_true (by omega))) ?_
  refine hcons (kLe (isX rfl) (isZ (m := 65535) rfl) (decide_eq_true (by omega))) ?_
  refine hcons (kLe (isX rfl) (isZ (m := 65535) rfl) (decide_eq_true (by omega))) ?_
  refine hcons (kGe (isX rfl) (isZ (m := 0) rfl) (decide_eq_true (by omega))) ?_
  refine hcons (kLe (isX rfl) (isZ (m := 255) rfl) (decide_eq_false (by omega))) ?_
  refine hcons (kEqS (isX rfl) (isX rfl) (decide_eq_true rfl)) ?_
  refine hcons (kMax (isX rfl) (isZ (m := 0) rfl) (denX rfl) rfl) ?_
  refine hcons (kNeg (isX rfl) (denX rfl) (by omega) (fI64 (by omega) (by omega))) ?_
  refine hcons (kAndG 3 8 rfl (by decide) (isX rfl) (isZ (m := 7) rfl) (denX rfl) (fI64 (by omega) (by omega)) rfl rfl (fI64 (by omega) (by omega))) ?_
  refine hcons (kMax (isZ (m := 0) rfl) (isX rfl) (denX rfl) rfl) ?_
  refine hcons (kRem (isX rfl) (isZ (m := 8) rfl) (denX rfl) (by omega) (by omega) rfl) ?_
  refine hcons (kSub (isZ (m := 8) rfl) (isX rfl) (denX rfl) (by omega) (fI64 (by omega) (by omega))) ?_
  refine hcons (kRem (isX rfl) (isZ (m := 8) rfl) (denX rfl) (by omega) (by omega) rfl) ?_
  refine hcons (kEqI (isX rfl) (isX rfl) (decide_eq_true (by omega))) ?_
  exact hnil
theorem path44 (rt : Int) (ri : Int) (c : List UInt8) (rp : Int) (s : List UInt8) (n : Int) (b0 : -9223372036854775808 ≤ rt) (b1 : rt ≤ 9223372036854775807) (b2 : -9223372036854775808 ≤ ri) (b3 : ri ≤ 9223372036854775807) (b4 : c.length ≤ 9223372036854775807) (b5 : -9223372036854775808 ≤ rp) (b6 : rp ≤ 9223372036854775807) (b7 : s.length ≤ 9223372036854775807) (b8 : -9223372036854775808 ≤ n) (b9 : n ≤ 9223372036854775807) (h0 : ¬ (3000 < (s.length : Int))) (h1 : ¬ (70000 < (c.length : Int))) (h2 : (s.length : Int) = 0) (h5 : 1 ≤ rt) (h6 : rt ≤ 255) (h7 : 0 ≤ ri) (h8 : ri ≤ 65535) (h9 : (c.length : Int) ≤ 65535) (h10 : 0 ≤ rp) (h11 : ¬ (rp ≤ 255)) (w : World) (hl : laidE w) : Calls Tryd.prog 5 #[.agg #[.int .i64 rt, .int .i64 ri, St' c, .int .i64 rp], St' s, .int .i64 n] w fun e w' => e = .returned (.bool true) ∧ Go.AX.Below w.heap.size w w' := by
  obtain ⟨fi, hfi, hb⟩ : ∃ fi, tabk.fn.get 5 = some fi ∧ fi.body.isSome = true := ⟨_, rfl, by kernel_rfl⟩
  exact runP (tb := tab44) ((tabkOk (nuL (nu44 rt ri c rp s n)) (one44 rt ri c rp s n)).hyps (hyOk44 rt ri c rp s n b0 b1 b2 b3 b4 b5 b6 b7 b8 b9 h0 h1 h2 h5 h6 h7 h8 h9 h10 h11)) rfl hfi hb (fun e => run44 e ) (args := [.agg #[.int .i64 rt, .int .i64 ri, St' c, .int .i64 rp], St' s, .int .i64 n]) (by simp only [RelL, Rel]; exact ⟨_, _, rfl, ⟨_, rfl, ⟨_, _, rfl, rfl, ⟨_, _, rfl, rfl, ⟨_, _, rfl, rfl, ⟨_, _, rfl, rfl, rfl⟩⟩⟩⟩⟩, ⟨_, _, rfl, rfl, ⟨_, _, rfl, rfl, rfl⟩⟩⟩) w hl
def hy45 : List (HK × AV) := [(.len (.x 4), .x 6),
  (.bin .gtr (.x 6) (.i .i64 (.ofNat 3000)), .b false),
  (.len (.x 2), .x 7),
  (.bin .gtr (.x 7) (.i .i64 (.ofNat 70000)), .b false),
  (.bin .neq (.x 4) (.s 0 0), .b true),
  (.idx (.x 4) (.i .i64 (.ofNat 0)), .x 8),
  (.bin .neq (.x 8) (.i .u8 (.ofNat 1)), .b true),
  (.bin .gtr (.x 6) (.i .i64 (.ofNat 0)), .b true),
  (.bin .geq (.x 0) (.i .i64 (.ofNat 1)), .b true),
  (.bin .leq (.x 0) (.i .i64 (.ofNat 255)), .b true),
  (.bin .geq (.x 1) (.i .i64 (.ofNat 0)), .b true),
  (.bin .leq (.x 1) (.i .i64 (.ofNat 65535)), .b true),
  (.bin .leq (.x 7) (.i .i64 (.ofNat 65535)), .b true),
  (.bin .geq (.x 3) (.i .i64 (.ofNat 0)), .b true),
  (.bin .leq (.x 3) (.i .i64 (.ofNat 255)), .b false),
  (.bin .eql (.x 4) (.x 4), .b true),
  (.mm true (.x 5) (.i .i64 (.ofNat 0)), .x 9),
  (.un .neg (.x 9), .x 10),
  (.bin .and (.x 10) (.i .i64 (.ofNat 7)), .x 11),
  (.mm true (.i .i64 (.ofNat 0)) (.x 5), .x 12),
  (.bin .rem (.x 12) (.i .i64 (.ofNat 8)), .x 13),
  (.bin .sub (.i .i64 (.ofNat 8)) (.x 13), .x 14),
  (.bin .rem (.x 14) (.i .i64 (.ofNat 8)), .x 15),
  (.bin .eql (.x 11) (.x 15), .b true)]
noncomputable def tab45 : Tab := { tabk with hyp := hy45 }
theorem run45 (e : Nat) : okB (call tab45 9000 5 [.ag [.x 0, .x 1, .x 2, .x 3], .x 4, .x 5] ⟨H0 e , 7, 0, 0⟩) = true := by kernel_rfl
def nu45 (rt : Int) (ri : Int) (c : List UInt8) (rp : Int) (s : List UInt8) (n : Int) : List Value := [.int .i64 (rt),
  .int .i64 (ri),
  St' c,
  .int .i64 (rp),
  St' s,
  .int .i64 (n),
  .int .i64 ((s.length : Int)),
  .int .i64 ((c.length : Int)),
  .int .u8 (bt s 0),
  .int .i64 (max n 0),
  .int .i64 (-((max n 0))),
  .int .i64 ((-((max n 0))) % 8),
  .int .i64 (max 0 n),
  .int .i64 ((max 0 n) % 8),
  .int .i64 (8 - ((max 0 n) % 8)),
  .int .i64 ((8 - ((max 0 n) % 8)) % 8)]
theorem one45 (rt : Int) (ri : Int) (c : List UInt8) (rp : Int) (s : List UInt8) (n : Int) : ∀ j, (nuL (nu45 rt ri c rp s n) j).oneCell' = true := nuL_one (l := nu45 rt ri c rp s n) rfl
set_option maxHeartbeats 2000000 in
theorem hyOk45 (rt : Int) (ri : Int) (c : List UInt8) (rp : Int) (s : List UInt8) (n : Int) (b0 : -9223372036854775808 ≤ rt) (b1 : rt ≤ 9223372036854775807) (b2 : -9223372036854775808 ≤ ri) (b3 : ri ≤ 9223372036854775807) (b4 : c.length ≤ 9223372036854775807) (b5 : -9223372036854775808 ≤ rp) (b6 : rp ≤ 9223372036854775807) (b7 : s.length ≤ 9223372036854775807) (b8 : -9223372036854775808 ≤ n) (b9 : n ≤ 9223372036854775807) (h0 : ¬ (3000 < (s.length : Int))) (h1 : ¬ (70000 < (c.length : Int))) (h2 : ¬ ((s.length : Int) = 0)) (h3 : ¬ (bt s 0 = 1)) (h5 : 1 ≤ rt) (h6 : rt ≤ 255) (h7 : 0 ≤ ri) (h8 : ri ≤ 65535) (h9 : (c.length : Int) ≤ 65535) (h10 : 0 ≤ rp) (h11 : ¬ (rp ≤ 255)) : ∀ k r, (k, r) ∈ hy45 → HOk (cx (nuL (nu45 rt ri c rp s n)) (one45 rt ri c rp s n) 1 laidE laidE_stab) k r := by
  have := bt_lo s 0; have := bt_hi s 0
  unfold hy45
  refine hcons (kLenE (isX rfl) (denX rfl) (by first | omega | (simp only [List.length_append, List.length_cons, List.length_nil, List.length_take, List.length_drop, List.length_replicate, Int.natCast_add] at *; omega))) ?_
  refine hcons (kGt (isX rfl) (isZ (m := 3000) rfl) (decide_eq_false (by omega))) ?_
  refine hcons (kLenE (isX rfl) (denX rfl) (by first | omega | (simp only [List.length_append, List.length_cons, List.length_nil, List.length_take, List.length_drop, List.length_replicate, Int.natCast_add] at *; omega))) ?_
  refine hcons (kGt (isX rfl) (isZ (m := 70000) rfl) (decide_eq_false (by omega))) ?_
  refine hcons (kNeS (isX rfl) (isSx (l := ([] : List UInt8)) 0 0 rfl) (bnT (by first | exact nilT (by first | omega | (simp only [List.length_append, List.length_cons, List.length_nil, List.length_take, List.length_drop, List.length_replicate, Int.natCast_add] at *; omega)) | exact nilF (by first | omega | (simp only [List.length_append, List.length_cons, List.length_nil, List.length_take, List.length_drop, List.length_replicate, Int.natCast_add] at *; omega)) | exact nilT' (by first | omega | (simp only [List.length_append, List.length_cons, List.length_nil, List.length_take, List.length_drop, List.length_replicate, Int.natCast_add] at *; omega)) | exact nilF' (by first | omega | (simp only [List.length_append, List.length_cons, List.length_nil, List.length_take, List.length_drop, List.length_replicate, Int.natCast_add] at *; omega))))) ?_
  refine hcons (kIdxE (i := 0) (isX rfl) (isZ (m := 0) rfl) (denX rfl) rfl (by first | omega | (simp only [List.length_append, List.length_cons, List.length_nil, List.length_take, List.length_drop, List.length_replicate, Int.natCast_add] at *; omega)) rfl) ?_
  refine hcons (kNeI (isX rfl) (isZ (m := 1) rfl) (neT (by omega))) ?_
  refine hcons (kGt (isX rfl) (isZ (m := 0) rfl) (decide_eq_true (by omega))) ?_
  refine hcons (kGe (isX rfl) (isZ (m := 1) rfl) (decide_eq_true (by omega))) ?_
  refine hcons (kLe (isX rfl) (isZ (m := 255) rfl) (decide_eq_true (by omega))) ?_
  refine hcons (kGe (isX rfl) (isZ (m := 0) rfl) (decide_eq_true (by omega))) ?_
  refine hcons (kLe (isX rfl) (isZ (m := 65535) rfl) (decide_eq_true (by omega))) ?_
  refine hcons (kLe (isX rfl) (isZ (m := 65535) rfl) (decide_eq_true (by omega))) ?_
  refine hcons (kGe (isX rfl) (isZ (m := 0) rfl) (decide_eq_true (by omega))) ?_
  refine hcons (kLe (isX rfl) (isZ (m := 255) rfl) (decide_eq_false (by omega))) ?_
  refine hcons (kEqS (isX rfl) (isX rfl) (decide_eq_true rfl)) ?_
  refine hcons (kMax (isX rfl) (isZ (m := 0) rfl) (denX rfl) rfl) ?_
  refine hcons (kNeg (isX rfl) (denX rfl) (by omega) (fI64 (by omega) (by omega))) ?_
  refine hcons (kAndG 3 8 rfl (by decide) (isX rfl) (isZ (m := 7) rfl) (denX rfl) (fI64 (by omega) (by omega)) rfl rfl (fI64 (by omega) (by omega))) ?_
  refine hcons (kMax (isZ (m := 0) rfl) (isX rfl) (denX rfl) rfl) ?_
  refine hcons (kRem (isX rfl) (isZ (m := 8) rfl) (denX rfl) (by omega) (by omega) rfl) ?_
  refine hcons (kSub (isZ (m := 8) rfl) (isX rfl) (denX rfl) (by omega) (fI64 (by omega) (by omega))) ?_
  refine hcons (kRem (isX rfl) (isZ (m := 8) rfl) (denX rfl) (by omega) (by omega) rfl) ?_
  refine hcons (kEqI (isX rfl) (isX rfl) (decide_eq_true (by omega))) ?_
  exact hnil
theorem path45 (rt : Int) (ri : Int) (c : List UInt8) (rp : Int) (s : List UInt8) (n : Int) (b0 : -9223372036854775808 ≤ rt) (b1 : rt ≤ 9223372036854775807) (b2 : -9223372036854775808 ≤ ri) (b3 : ri ≤ 9223372036854775807) (b4 : c.length ≤ 9223372036854775807) (b5 : -9223372036854775808 ≤ rp) (b6 : rp ≤ 9223372036854775807) (b7 : s.length ≤ 9223372036854775807) (b8 : -9223372036854775808 ≤ n) (b9 : n ≤ 9223372036854775807) (h0 : ¬ (3000 < (s.length : Int))) (h1 : ¬ (70000 < (c.length : Int))) (h2 : ¬ ((s.length : Int) = 0)) (h3 : ¬ (bt s 0 = 1)) (h5 : 1 ≤ rt) (h6 : rt ≤ 255) (h7 : 0 ≤ ri) (h8 : ri ≤ 65535) (h9 : (c.length : Int) ≤ 65535) (h10 : 0 ≤ rp) (h11 : ¬ (rp ≤ 255)) (w : World) (hl : laidE w) : Calls Tryd.prog 5 #[.agg #[.int .i64 rt, .int .i64 ri, St' c, .int .i64 rp], St' s, .int .i64 n] w fun e w' => e = .returned (.bool true) ∧ Go.AX.Below w.heap.size w w' := by
  obtain ⟨fi, hfi, hb⟩ : ∃ fi, tabk.fn.get 5 = some fi ∧ fi.body.isSome = true := ⟨_, rfl, by kernel_rfl⟩
  exact runP (tb := tab45) ((tabkOk (nuL (nu45 rt ri c rp s n)) (one45 rt ri c rp s n)).hyps (hyOk45 rt ri c rp s n b0 b1 b2 b3 b4 b5 b6 b7 b8 b9 h0 h1 h2 h3 h5 h6 h7 h8 h9 h10 h11)) rfl hfi hb (fun e => run45 e ) (args := [.agg #[.int .i64 rt, .int .i64 ri, St' c, .int .i64 rp], St' s, .int .i64 n]) (by simp only [RelL, Rel]; exact ⟨_, _, rfl, ⟨_, rfl, ⟨_, _, rfl, rfl, ⟨_, _, rfl, rfl, ⟨_, _, rfl, rfl, ⟨_, _, rfl, rfl, rfl⟩⟩⟩⟩⟩, ⟨_, _, rfl, rfl, ⟨_, _, rfl, rfl, rfl⟩⟩⟩) w hl
def hy46 : List (HK × AV) := [(.len (.x 4), .x 6),
  (.bin .gtr (.x 6) (.i .i64 (.ofNat 3000)), .b false),
  (.len (.x 2), .x 7),
  (.bin .gtr (.x 7) (.i .i64 (.ofNat 70000)), .b false),
  (.bin .neq (.x 4) (.s 0 0), .b true),
  (.idx (.x 4) (.i .i64 (.ofNat 0)), .x 8),
  (.bin .neq (.x 8) (.i .u8 (.ofNat 1)), .b false),
  (.bin .lss (.x 6) (.i .i64 (.ofNat 8)), .b true),
  (.bin .gtr (.x 6) (.i .i64 (.ofNat 0)), .b true),
  (.bin .geq (.x 0) (.i .i64 (.ofNat 1)), .b true),
  (.bin .leq (.x 0) (.i .i64 (.ofNat 255)), .b true),
  (.bin .geq (.x 1) (.i .i64 (.ofNat 0)), .b true),
  (.bin .leq (.x 1) (.i .i64 (.ofNat 65535)), .b true),
  (.bin .leq (.x 7) (.i .i64 (.ofNat 65535)), .b true),
  (.bin .geq (.x 3) (.i .i64 (.ofNat 0)), .b true),
  (.bin .leq (.x 3) (.i .i64 (.ofNat 255)), .b false),
  (.bin .eql (.x 4) (.x 4), .b true),
  (.mm true (.x 5) (.i .i64 (.ofNat 0)), .x 9),
  (.un .neg (.x 9), .x 10),
  (.bin .and (.x 10) (.i .i64 (.ofNat 7)), .x 11),
  (.mm true (.i .i64 (.ofNat 0)) (.x 5), .x 12),
  (.bin .rem (.x 12) (.i .i64 (.ofNat 8)), .x 13),
  (.bin .sub (.i .i64 (.ofNat 8)) (.x 13), .x 14),
  (.bin .rem (.x 14) (.i .i64 (.ofNat 8)), .x 15),
  (.bin .eql (.x 11) (.x 15), .b true)]
noncomputable def tab46 : Tab := { tabk with hyp := hy46 }
theorem run46 (e : Nat) : okB (call tab46 9000 5 [.ag [.x 0, .x 1, .x 2, .x 3], .x 4, .x 5] ⟨H0 e , 7, 0, 0⟩) = true := by kernel_rfl
def nu46 (rt : Int) (ri : Int) (c : List UInt8) (rp : Int) (s : List UInt8) (n : Int) : List Value := [.int .i64 (rt),
  .int .i64 (ri),
  St' c,
  .int .i64 (rp),
  St' s,
  .int .i64 (n),
  .int .i64 ((s.length : Int)),
  .int .i64 ((c.length : Int)),
  .int .u8 (bt s 0),
  .int .i64 (max n 0),
  .int .i64 (-((max n 0))),
  .int .i64 ((-((max n 0))) % 8),
  .int .i64 (max 0 n),
  .int .i64 ((max 0 n) % 8),
  .int .i64 (8 - ((max 0 n) % 8)),
  .int .i64 ((8 - ((max 0 n) % 8)) % 8)]
theorem one46 (rt : Int) (ri : Int) (c : List UInt8) (rp : Int) (s : List UInt8) (n : Int) : ∀ j, (nuL (nu46 rt ri c rp s n) j).oneCell' = true := nuL_one (l := nu46 rt ri c rp s n) rfl
set_option maxHeartbeats 2000000 in
theorem hyOk46 (rt : Int) (ri : Int) (c : List UInt8) (rp : Int) (s : List UInt8) (n : Int) (b0 : -9223372036854775808 ≤ rt) (b1 : rt ≤ 9223372036854775807) (b2 : -9223372036854775808 ≤ ri) (b3 : ri ≤ 9223372036854775807) (b4 : c.length ≤ 9223372036854775807) (b5 : -9223372036854775808 ≤ rp) (b6 : rp ≤ 9223372036854775807) (b7 : s.length ≤ 9223372036854775807) (b8 : -9223372036854775808 ≤ n) (b9 : n ≤ 9223372036854775807) (h0 : ¬ (3000 < (s.length : Int))) (h1 : ¬ (70000 < (c.length : Int))) (h2 : ¬ ((s.length : Int) = 0)) (h3 : bt s 0 = 1) (h4 : (s.length : Int) < 8) (h6 : 1 ≤ rt) (h7 : rt ≤ 255) (h8 : 0 ≤ ri) (h9 : ri ≤ 65535) (h10 : (c.length : Int) ≤ 65535) (h11 : 0 ≤ rp) (h12 : ¬ (rp ≤ 255)) : ∀ k r, (k, r) ∈ hy46 → HOk (cx (nuL (nu46 rt ri c rp s n)) (one46 rt ri c rp s n) 1 laidE laidE_stab) k r := by
  have := bt_lo s 0; have := bt_hi s 0
  unfold hy46
  refine hcons (kLenE (isX rfl) (denX rfl) (by first | omega | (simp only [List.length_append, List.length_cons, List.length_nil, List.length_take, List.length_drop, List.length_replicate, Int.natCast_add] at *; omega))) ?_
  refine hcons (kGt (isX rfl) (isZ (m := 3000) rfl) (decide_eq_false (by omega))) ?_
  refine hcons (kLenE (isX rfl) (denX rfl) (by first | omega | (simp only [List.length_append, List.length_cons, List.length_nil, List.length_take, List.length_drop, List.length_replicate, Int.natCast_add] at *; omega))) ?_
  refine hcons (kGt (isX rfl) (isZ (m := 70000) rfl) (decide_eq_false (by omega))) ?_
  refine hcons (kNeS (isX rfl) (isSx (l := ([] : List UInt8)) 0 0 rfl) (bnT (by first | exact nilT (by first | omega | (simp only [List.length_append, List.length_cons, List.length_nil, List.length_take, List.length_drop, List.length_replicate, Int.natCast_add] at *; omega)) | exact nilF (by first | omega | (simp only [List.length_append, List.length_cons, List.length_nil, List.length_take, List.length_drop, List.length_replicate, Int.natCast_add] at *; omega)) | exact nilT' (by first | omega | (simp only [List.length_append, List.length_cons, List.length_nil, List.length_take, List.length_drop, List.length_replicate, Int.natCast_add] at *; omega)) | exact nilF' (by first | omega | (simp only [List.length_append, List.length_cons, List.length_nil, List.length_take, List.length_drop, List.length_replicate, Int.natCast_add] at *; omega))))) ?_
  refine hcons (kIdxE (i := 0) (isX rfl) (isZ (m := 0) rfl) (denX rfl) rfl (by first | omega | (simp only [List.length_append, List.length_cons, List.length_nil, List.length_take, List.length_drop, List.length_replicate, Int.natCast_add] at *; omega)) rfl) ?_
  refine hcons (kNeI (isX rfl) (isZ (m := 1) rfl) (neF (by omega))) ?_
  refine hcons (kLt (isX rfl) (isZ (m := 8) rfl) (decide_eq_true (by omega))) ?_
  refine hcons (kGt (isX rfl) (isZ (m := 0) rfl) (decide_eq_true (by omega))) ?_
  refine hcons (kGe (isX rfl) (isZ (m := 1) rfl) (decide_eq_true (by omega))) ?_
  refine hcons (kLe (isX rfl) (isZ (m := 255) rfl) (decide_eq_true (by omega))) ?_
  refine hcons (kGe (isX rfl) (isZ (m := 0) rfl) (decide_eq_true (by omega))) ?_
  refine hcons (kLe (isX rfl) (isZ (m := 65535) rfl) (decide_eq_true (by omega))) ?_
  refine hcons (kLe (isX rfl) (isZ (m := 65535) rfl) (decide_eq_true (by omega))) ?_
  refine hcons (kGe (isX rfl) (isZ (m := 0) rfl) (decide_eq_true (by omega))) ?_
  refine hcons (kLe (isX rfl) (isZ (m := 255) rfl) (decide_eq_false (by omega))) ?_
  refine hcons (kEqS (isX rfl) (isX rfl) (decide_eq_true rfl)) ?_
  refine hcons (kMax (isX rfl) (isZ (m := 0) rfl) (denX rfl) rfl) ?_
  refine hcons (kNeg (isX rfl) (denX rfl) (by omega) (fI64 (by omega) (by omega))) ?_
  refine hcons (kAndG 3 8 rfl (by decide) (isX rfl) (isZ (m := 7) rfl) (denX rfl) (fI64 (by omega) (by omega)) rfl rfl (fI64 (by omega) (by omega))) ?_
  refine hcons (kMax (isZ (m := 0) rfl) (isX rfl) (denX rfl) rfl) ?_
  refine hcons (kRem (isX rfl) (isZ (m := 8) rfl) (denX rfl) (by omega) (by omega) rfl) ?_
  refine hcons (kSub (isZ (m := 8) rfl) (isX rfl) (denX rfl) (by omega) (fI64 (by omega) (by omega))) ?_
  refine hcons (kRem (isX rfl) (isZ (m := 8) rfl) (denX rfl) (by omega) (by omega) rfl) ?_
  refine hcons (kEqI (isX rfl) (isX rfl) (decide_eq_true (by omega))) ?_
  exact hnil
theorem path46 (rt : Int) (ri : Int) (c : List UInt8) (rp : Int) (s : List UInt8) (n : Int) (b0 : -9223372036854775808 ≤ rt) (b1 : rt ≤ 9223372036854775807) (b2 : -9223372036854775808 ≤ ri) (b3 : ri ≤ 9223372036854775807) (b4 : c.length ≤ 9223372036854775807) (b5 : -9223372036854775808 ≤ rp) (b6 : rp ≤ 9223372036854775807) (b7 : s.length ≤ 9223372036854775807) (b8 : -9223372036854775808 ≤ n) (b9 : n ≤ 9223372036854775807) (h0 : ¬ (3000 < (s.length : Int))) (h1 : ¬ (70000 < (c.length : Int))) (h2 : ¬ ((s.length : Int) = 0)) (h3 : bt s 0 = 1) (h4 : (s.length : Int) < 8) (h6 : 1 ≤ rt) (h7 : rt ≤ 255) (h8 : 0 ≤ ri) (h9 : ri ≤ 65535) (h10 : (c.length : Int) ≤ 65535) (h11 : 0 ≤ rp) (h12 : ¬ (rp ≤ 255)) (w : World) (hl : laidE w) : Calls Tryd.prog 5 #[.agg #[.int .i64 rt, .int .i64 ri, St' c, .int .i64 rp], St' s, .int .i64 n] w fun e w' => e = .returned (.bool true) ∧ Go.AX.Below w.heap.size w w' := by
  obtain ⟨fi, hfi, hb⟩ : ∃ fi, tabk.fn.get 5 = some fi ∧ fi.body.isSome = true := ⟨_, rfl, by kernel_rfl⟩
  exact runP (tb := tab46) ((tabkOk (nuL (nu46 rt ri c rp s n)) (one46 rt ri c rp s n)).hyps (hyOk46 rt ri c rp s n b0 b1 b2 b3 b4 b5 b6 b7 b8 b9 h0 h1 h2 h3 h4 h6 h7 h8 h9 h10 h11 h12)) rfl hfi hb (fun e => run46 e ) (args := [.agg #[.int .i64 rt, .int .i64 ri, St' c, .int .i64 rp], St' s, .int .i64 n]) (by simp only [RelL, Rel]; exact ⟨_, _, rfl, ⟨_, rfl, ⟨_, _, rfl, rfl, ⟨_, _, rfl, rfl, ⟨_, _, rfl, rfl, ⟨_, _, rfl, rfl, rfl⟩⟩⟩⟩⟩, ⟨_, _, rfl, rfl, ⟨_, _, rfl, rfl, rfl⟩⟩⟩) w hl
def hy47 : List (HK × AV) := [(.len (.x 4), .x 6),
  (.bin .gtr (.x 6) (.i .i64 (.ofNat 3000)), .b false),
  (.len (.x 2), .x 7),
  (.bin .gtr (.x 7) (.i .i64 (.ofNat 70000)), .b false),
  (.bin .neq (.x 4) (.s 0 0), .b true),
  (.idx (.x 4) (.i .i64 (.ofNat 0)), .x 8),
  (.bin .neq (.x 8) (.i .u8 (.ofNat 1)), .b false),
  (.bin .lss (.x 6) (.i .i64 (.ofNat 8)), .b false),
  (.idx (.x 4) (.i .i64 (.ofNat 4)), .x 9),
  (.conv 3 (.x 9), .x 10),
  (.bin .shl (.x 10) (.i .u64 (.ofNat 8)), .x 11),
  (.bin .add (.i .i64 (.ofNat 8)) (.x 11), .x 12),
  (.idx (.x 4) (.i .i64 (.ofNat 5)), .x 13),
  (.conv 3 (.x 13), .x 14),
  (.bin .add (.x 12) (.x 14), .x 15),
  (.idx (.x 4) (.i .i64 (.ofNat 6)), .x 16),
  (.conv 3 (.x 16), .x 17),
  (.bin .add (.x 15) (.x 17), .x 18),
  (.bin .lss (.x 6) (.x 18), .b false),
  (.idx (.x 4) (.i .i64 (.ofNat 1)), .x 19),
  (.bin .eql (.x 19) (.i .u8 (.ofNat 0)), .b false),
  (.conv 3 (.x 19), .x 20),
  (.idx (.x 4) (.i .i64 (.ofNat 2)), .x 21),
  (.conv 3 (.x 21), .x 22),
  (.bin .shl (.x 22) (.i .u64 (.ofNat 8)), .x 23),
  (.idx (.x 4) (.i .i64 (.ofNat 3)), .x 24),
  (.conv 3 (.x 24), .x 25),
  (.bin .or (.x 23) (.x 25), .x 26),
  (.bin .sub (.x 18) (.x 17), .x 27),
  (.sub (.x 4) (some (.i .i64 (.ofNat 8))) (some (.x 27)), .x 28),
  (.sub (.x 4) (some (.x 18)) none, .x 29),
  (.bin .gtr (.x 6) (.i .i64 (.ofNat 0)), .b true),
  (.bin .mul (.x 10) (.i .i64 (.ofNat 256)), .x 30),
  (.bin .add (.x 30) (.x 14), .x 31),
  (.bin .add (.i .i64 (.ofNat 8)) (.x 31), .x 32),
  (.bin .add (.x 32) (.x 17), .x 33),
  (.bin .lss (.x 6) (.x 33), .b false),
  (.bin .mul (.x 22) (.i .i64 (.ofNat 256)), .x 34),
  (.bin .add (.x 34) (.x 25), .x 35),
  (.sub (.x 4) (some (.i .i64 (.ofNat 8))) (some (.x 32)), .x 36),
  (.sub (.x 4) (some (.x 33)) none, .x 37),
  (.bin .geq (.x 0) (.i .i64 (.ofNat 1)), .b true),
  (.bin .leq (.x 0) (.i .i64 (.ofNat 255)), .b true),
  (.bin .geq (.x 1) (.i .i64 (.ofNat 0)), .b true),
  (.bin .leq (.x 1) (.i .i64 (.ofNat 65535)), .b true),
  (.bin .leq (.x 7) (.i .i64 (.ofNat 65535)), .b true),
  (.bin .geq (.x 3) (.i .i64 (.ofNat 0)), .b true),
  (.bin .leq (.x 3) (.i .i64 (.ofNat 255)), .b false),
  (.eq 3 (.x 20) (.x 20), .b true),
  (.eq 3 (.x 26) (.x 35), .b true),
  (.eq 9 (.x 28) (.x 36), .b true),
  (.eq 3 (.x 17) (.x 17), .b true),
  (.bin .eql (.x 29) (.x 37), .b true),
  (.mm true (.x 5) (.i .i64 (.ofNat 0)), .x 38),
  (.un .neg (.x 38), .x 39),
  (.bin .and (.x 39) (.i .i64 (.ofNat 7)), .x 40),
  (.mm true (.i .i64 (.ofNat 0)) (.x 5), .x 41),
  (.bin .rem (.x 41) (.i .i64 (.ofNat 8)), .x 42),
  (.bin .sub (.i .i64 (.ofNat 8)) (.x 42), .x 43),
  (.bin .rem (.x 43) (.i .i64 (.ofNat 8)), .x 44),
  (.bin .eql (.x 40) (.x 44), .b true)]
noncomputable def tab47 : Tab := { tabk with hyp := hy47 }
theorem run47 (e : Nat) : okB (call tab47 9000 5 [.ag [.x 0, .x 1, .x 2, .x 3], .x 4, .x 5] ⟨H0 e , 7, 0, 0⟩) = true := by kernel_rfl
def nu47 (rt : Int) (ri : Int) (c : List UInt8) (rp : Int) (s : List UInt8) (n : Int) : List Value := [.int .i64 (rt),
  .int .i64 (ri),
  St' c,
  .int .i64 (rp),
  St' s,
  .int .i64 (n),
  .int .i64 ((s.length : Int)),
  .int .i64 ((c.length : Int)),
  .int .u8 (bt s 0),
  .int .u8 (bt s 4),
  .int .i64 ((bt s 4)),
  .int .i64 ((bt s 4) * 256),
  .int .i64 ((bt s 4) * 256 + 8),
  .int .u8 (bt s 5),
  .int .i64 ((bt s 5)),
  .int .i64 ((bt s 4) * 256 + (bt s 5) + 8),
  .int .u8 (bt s 6),
  .int .i64 ((bt s 6)),
  .int .i64 ((bt s 4) * 256 + (bt s 5) + (bt s 6) + 8),
  .int .u8 (bt s 1),
  .int .i64 ((bt s 1)),
  .int .u8 (bt s 2),
  .int .i64 ((bt s 2)),
  .int .i64 ((bt s 2) * 256),
  .int .u8 (bt s 3),
  .int .i64 ((bt s 3)),
  .int .i64 ((bt s 2) * 256 + (bt s 3)),
  .int .i64 ((bt s 4) * 256 + (bt s 5) + 8),
  St' ((List.take ((bt s 4) * 256 + (bt s 5) + 8 - (8)).toNat (List.drop (Int.toNat 8) s))),
  St' ((List.take ((s.length : Int) - ((bt s 4) * 256 + (bt s 5) + (bt s 6) + 8)).toNat (List.drop ((bt s 4) * 256 + (bt s 5) + (bt s 6) + 8).toNat s))),
  .int .i64 ((bt s 4) * 256),
  .int .i64 ((bt s 4) * 256 + (bt s 5)),
  .int .i64 ((bt s 4) * 256 + (bt s 5) + 8),
  .int .i64 ((bt s 4) * 256 + (bt s 5) + (bt s 6) + 8),
  .int .i64 ((bt s 2) * 256),
  .int .i64 ((bt s 2) * 256 + (bt s 3)),
  St' ((List.take ((bt s 4) * 256 + (bt s 5) + 8 - (8)).toNat (List.drop (Int.toNat 8) s))),
  St' ((List.take ((s.length : Int) - ((bt s 4) * 256 + (bt s 5) + (bt s 6) + 8)).toNat (List.drop ((bt s 4) * 256 + (bt s 5) + (bt s 6) + 8).toNat s))),
  .int .i64 (max n 0),
  .int .i64 (-((max n 0))),
  .int .i64 ((-((max n 0))) % 8),
  .int .i64 (max 0 n),
  .int .i64 ((max 0 n) % 8),
  .int .i64 (8 - ((max 0 n) % 8)),
  .int .i64 ((8 - ((max 0 n) % 8)) % 8)]
theorem one47 (rt : Int) (ri : Int) (c : List UInt8) (rp : Int) (s : List UInt8) (n : Int) : ∀ j, (nuL (nu47 rt ri c rp s n) j).oneCell' = true := nuL_one (l := nu47 rt ri c rp s n) rfl
set_option maxHeartbeats 2000000 in
theorem hyOk47 (rt : Int) (ri : Int) (c : List UInt8) (rp : Int) (s : List UInt8) (n : Int) (b0 : -9223372036854775808 ≤ rt) (b1 : rt ≤ 9223372036854775807) (b2 : -9223372036854775808 ≤ ri) (b3 : ri ≤ 9223372036854775807) (b4 : c.length ≤ 9223372036854775807) (b5 : -9223372036854775808 ≤ rp) (b6 : rp ≤ 9223372036854775807) (b7 : s.length ≤ 9223372036854775807) (b8 : -9223372036854775808 ≤ n) (b9 : n ≤ 9223372036854775807) (h0 : ¬ (3000 < (s.length : Int))) (h1 : ¬ (70000 < (c.length : Int))) (h2 : ¬ ((s.length : Int) = 0)) (h3 : bt s 0 = 1) (h4 : ¬ ((s.length : Int) < 8)) (h5 : ¬ ((s.length : Int) < (bt s 4) * 256 + (bt s 5) + (bt s 6) + 8)) (h6 : ¬ (bt s 1 = 0)) (h9 : 1 ≤ rt) (h10 : rt ≤ 255) (h11 : 0 ≤ ri) (h12 : ri ≤ 65535) (h13 : (c.length : Int) ≤ 65535) (h14 : 0 ≤ rp) (h15 : ¬ (rp ≤ 255)) : ∀ k r, (k, r) ∈ hy47 → HOk (cx (nuL (nu47 rt ri c rp s n)) (one47 rt ri c rp s n) 1 laidE laidE_stab) k r := by
  have := bt_lo s 0; have := bt_hi s 0
  have := bt_lo s 4; have := bt_hi s 4
  have := bt_lo s 5; have := bt_hi s 5
  have := bt_lo s 6; have := bt_hi s 6
  have := bt_lo s 1; have := bt_hi s 1
  have := bt_lo s 2; have := bt_hi s 2
  have := bt_lo s 3; have := bt_hi s 3
  unfold hy47
  refine hcons (kLenE (isX rfl) (denX rfl) (by first | omega | (simp only [List.length_append, List.length_cons, List.length_nil, List.length_take, List.length_drop, List.length_replicate, Int.natCast_add] at *; omega))) ?_
  refine hcons (kGt (isX rfl) (isZ (m := 3000) rfl) (decide_eq_false (by omega))) ?_
  refine hcons (kLenE (isX rfl) (denX rfl) (by first | omega | (simp only [List.length_append, List.length_cons, List.length_nil, List.length_take, List.length_drop, List.length_replicate, Int.natCast_add] at *; omega))) ?_
  refine hcons (kGt (isX rfl) (isZ (m := 70000) rfl) (decide_eq_false (by omega))) ?_
  refine hcons (kNeS (isX rfl) (isSx (l := ([] : List UInt8)) 0 0 rfl) (bnT (by first | exact nilT (by first | omega | (simp only [List.length_append, List.length_cons, List.length_nil, List.length_take, List.length_drop, List.length_replicate, Int.natCast_add] at *; omega)) | exact nilF (by first | omega | (simp only [List.length_append, List.length_cons, List.length_nil, List.length_take, List.length_drop, List.length_replicate, Int.natCast_add] at *; omega)) | exact nilT' (by first | omega | (simp only [List.length_append, List.length_cons, List.length_nil, List.length_take, List.length_drop, List.length_replicate, Int.natCast_add] at *; omega)) | exact nilF' (by first | omega | (simp only [List.length_append, List.length_cons, List.length_nil, List.length_take, List.length_drop, List.length_replicate, Int.natCast_add] at *; omega))))) ?_
  refine hcons (kIdxE (i := 0) (isX rfl) (isZ (m := 0) rfl) (denX rfl) rfl (by first | omega | (simp only [List.length_append, List.length_cons, List.length_nil, List.length_take, List.length_drop, List.length_replicate, Int.natCast_add] at *; omega)) rfl) ?_
  refine hcons (kNeI (isX rfl) (isZ (m := 1) rfl) (neF (by omega))) ?_
  refine hcons (kLt (isX rfl) (isZ (m := 8) rfl) (decide_eq_false (by omega))) ?_
  refine hcons (kIdxE (i := 4) (isX rfl) (isZ (m := 4) rfl) (denX rfl) rfl (by first | omega | (simp only [List.length_append, List.length_cons, List.length_nil, List.length_take, List.length_drop, List.length_replicate, Int.natCast_add] at *; omega)) rfl) ?_
  refine hcons (kConvF (isX rfl) tu3 (denX rfl) (fI64 (by omega) (by omega))) ?_
  refine hcons (kShlM 8 256 rfl (isX rfl) (isZ (m := 8) rfl) (denX rfl) rfl (by decide) (by omega) (fI64 (by omega) (by omega))) ?_
  refine hcons (kAdd (isZ (m := 8) rfl) (isX rfl) (denX rfl) (by omega) (fI64 (by omega) (by omega))) ?_
  refine hcons (kIdxE (i := 5) (isX rfl) (isZ (m := 5) rfl) (denX rfl) rfl (by first | omega | (simp only [List.length_append, List.length_cons, List.length_nil, List.length_take, List.length_drop, List.length_replicate, Int.natCast_add] at *; omega)) rfl) ?_
  refine hcons (kConvF (isX rfl) tu3 (denX rfl) (fI64 (by omega) (by omega))) ?_
  refine hcons (kAdd (isX rfl) (isX rfl) (denX rfl) (by omega) (fI64 (by omega) (by omega))) ?_
  refine hcons (kIdxE (i := 6) (isX rfl) (isZ (m := 6) rfl) (denX rfl) rfl (by first | omega | (simp only [List.length_append, List.length_cons, List.length_nil, List.length_take, List.length_drop, List.length_replicate, Int.natCast_add] at *; omega)) rfl) ?_
  refine hcons (kConvF (isX rfl) tu3 (denX rfl) (fI64 (by omega) (by omega))) ?_
  refine hcons (kAdd (isX rfl) (isX rfl) (denX rfl) (by omega) (fI64 (by omega) (by omega))) ?_
  refine hcons (kLt (isX rfl) (isX rfl) (decide_eq_false (by omega))) ?_
  refine hcons (kIdxE (i := 1) (isX rfl) (isZ (m := 1) rfl) (denX rfl) rfl (by first | omega | (simp only [List.length_append, List.length_cons, List.length_nil, List.length_take, List.length_drop, List.length_replicate, Int.natCast_add] at *; omega)) rfl) ?_
  refine hcons (kEqI (isX rfl) (isZ (m := 0) rfl) (decide_eq_false (by omega))) ?_
  refine hcons (kConvF (isX rfl) tu3 (denX rfl) (fI64 (by omega) (by omega))) ?_
  refine hcons (kIdxE (i := 2) (isX rfl) (isZ (m := 2) rfl) (denX rfl) rfl (by first | omega | (simp only [List.length_append, List.length_cons, List.length_nil, List.length_take, List.length_drop, List.length_replicate, Int.natCast_add] at *; omega)) rfl) ?_
  refine hcons (kConvF (isX rfl) tu3 (denX rfl) (fI64 (by omega) (by omega))) ?_
  refine hcons (kShlM 8 256 rfl (isX rfl) (isZ (m := 8) rfl) (denX rfl) rfl (by decide) (by omega) (fI64 (by omega) (by omega))) ?_
  refine hcons (kIdxE (i := 3) (isX rfl) (isZ (m := 3) rfl) (denX rfl) rfl (by first | omega | (simp only [List.length_append, List.length_cons, List.length_nil, List.length_take, List.length_drop, List.length_replicate, Int.natCast_add] at *; omega)) rfl) ?_
  refine hcons (kConvF (isX rfl) tu3 (denX rfl) (fI64 (by omega) (by omega))) ?_
  refine hcons (kOrM 8 256 rfl (isX rfl) (isX rfl) (denX rfl) (by omega) (by omega) (fI64 (by omega) (by omega)) (fI64 (by omega) (by omega)) (by omega) (by omega) (by omega) (fI64 (by omega) (by omega))) ?_
  refine hcons (kSub (isX rfl) (isX rfl) (denX rfl) (by omega) (fI64 (by omega) (by omega))) ?_
  refine hcons (kMid (P := 8) (Q := (bt s 4) * 256 + (bt s 5) + 8) (isX rfl) (.inr ⟨_, _, rfl, (isZ (m := 8) rfl)⟩) (.inr ⟨_, _, rfl, (isX rfl)⟩) (by first | omega | (simp only [List.length_append, List.length_cons, List.length_nil, List.length_take, List.length_drop, List.length_replicate, Int.natCast_add] at *; omega)) (by first | omega | (simp only [List.length_append, List.length_cons, List.length_nil, List.length_take, List.length_drop, List.length_replicate, Int.natCast_add] at *; omega)) (by first | omega | (simp only [List.length_append, List.length_cons, List.length_nil, List.length_take, List.length_drop, List.length_replicate, Int.natCast_add] at *; omega)) (denX rfl)) ?_
  refine hcons (kMid (P := (bt s 4) * 256 + (bt s 5) + (bt s 6) + 8) (Q := (s.length : Int)) (isX rfl) (.inr ⟨_, _, rfl, (isX rfl)⟩) (.inl ⟨rfl, by first | omega | (simp only [List.length_append, List.length_cons, List.length_nil, List.length_take, List.length_drop, List.length_replicate, Int.natCast_add] at *; omega)⟩) (by first | omega | (simp only [List.length_append, List.length_cons, List.length_nil, List.length_take, List.length_drop, List.length_replicate, Int.natCast_add] at *; omega)) (by first | omega | (simp only [List.length_append, List.length_cons, List.length_nil, List.length_take, List.length_drop, List.length_replicate, Int.natCast_add] at *; omega)) (by first | omega | (simp only [List.length_append, List.length_cons, List.length_nil, List.length_take, List.length_drop, List.length_replicate, Int.natCast_add] at *; omega)) (denX rfl)) ?_
  refine hcons (kGt (isX rfl) (isZ (m := 0) rfl) (decide_eq_true (by omega))) ?_
  refine hcons (kMul (isX rfl) (isZ (m := 256) rfl) (denX rfl) (by omega) (fI64 (by omega) (by omega))) ?_
  refine hcons (kAdd (isX rfl) (isX rfl) (denX rfl) (by omega) (fI64 (by omega) (by omega))) ?_
  refine hcons (kAdd (isZ (m := 8) rfl) (isX rfl) (denX rfl) (by omega) (fI64 (by omega) (by omega))) ?_
  refine hcons (kAdd (isX rfl) (isX rfl) (denX rfl) (by omega) (fI64 (by omega) (by omega))) ?_
  refine hcons (kLt (isX rfl) (isX rfl) (decide_eq_false (by omega))) ?_
  refine hcons (kMul (isX rfl) (isZ (m := 256) rfl) (denX rfl) (by omega) (fI64 (by omega) (by omega))) ?_
  refine hcons (kAdd (isX rfl) (isX rfl) (denX rfl) (by omega) (fI64 (by omega) (by omega))) ?_
  refine hcons (kMid (P := 8) (Q := (bt s 4) * 256 + (bt s 5) + 8) (isX rfl) (.inr ⟨_, _, rfl, (isZ (m := 8) rfl)⟩) (.inr ⟨_, _, rfl, (isX rfl)⟩) (by first | omega | (simp only [List.length_append, List.length_cons, List.length_nil, List.length_take, List.length_drop, List.length_replicate, Int.natCast_add] at *; omega)) (by first | omega | (simp only [List.length_append, List.length_cons, List.length_nil, List.length_take, List.length_drop, List.length_replicate, Int.natCast_add] at *; omega)) (by first | omega | (simp only [List.length_append, List.length_cons, List.length_nil, List.length_take, List.length_drop, List.length_replicate, Int.natCast_add] at *; omega)) (denX rfl)) ?_
  refine hcons (kMid (P := (bt s 4) * 256 + (bt s 5) + (bt s 6) + 8) (Q := (s.length : Int)) (isX rfl) (.inr ⟨_, _, rfl, (isX rfl)⟩) (.inl ⟨rfl, by first | omega | (simp only [List.length_append, List.length_cons, List.length_nil, List.length_take, List.length_drop, List.length_replicate, Int.natCast_add] at *; omega)⟩) (by first | omega | (simp only [List.length_append, List.length_cons, List.length_nil, List.length_take, List.length_drop, List.length_replicate, Int.natCast_add] at *; omega)) (by first | omega | (simp only [List.length_append, List.length_cons, List.length_nil, List.length_take, List.length_drop, List.length_replicate, Int.natCast_add] at *; omega)) (by first | omega | (simp only [List.length_append, List.length_cons, List.length_nil, List.length_take, List.length_drop, List.length_replicate, Int.natCast_add] at *; omega)) (denX rfl)) ?_
  refine hcons (kGe (isX rfl) (isZ (m := 1) rfl) (decide_eq_true (by omega))) ?_
  refine hcons (kLe (isX rfl) (isZ (m := 255) rfl) (decide_eq_true (by omega))) ?_
  refine hcons (kGe (isX rfl) (isZ (m := 0) rfl) (decide_eq_true (by omega))) ?_
  refine hcons (kLe (isX rfl) (isZ (m := 65535) rfl) (decide_eq_true (by omega))) ?_
  refine hcons (kLe (isX rfl) (isZ (m := 65535) rfl) (decide_eq_true (by omega))) ?_
  refine hcons (kGe (isX rfl) (isZ (m := 0) rfl) (decide_eq_true (by omega))) ?_
  refine hcons (kLe (isX rfl) (isZ (m := 255) rfl) (decide_eq_false (by omega))) ?_
  refine hcons (kEqT (isX rfl) (isX rfl) tu3 (decide_eq_true (by omega))) ?_
  refine hcons (kEqT (isX rfl) (isX rfl) tu3 (decide_eq_true (by omega))) ?_
  refine hcons (kEqTS (isX rfl) (isX rfl) tu9 (decide_eq_true rfl)) ?_
  refine hcons (kEqT (isX rfl) (isX rfl) tu3 (decide_eq_true (by omega))) ?_
  refine hcons (kEqS (isX rfl) (isX rfl) (decide_eq_true rfl)) ?_
  refine hcons (kMax (isX rfl) (isZ (m := 0) rfl) (denX rfl) rfl) ?_
  refine hcons (kNeg (isX rfl) (denX rfl) (by omega) (fI64 (by omega) (by omega))) ?_
  refine hcons (kAndG 3 8 rfl (by decide) (isX rfl) (isZ (m := 7) rfl) (denX rfl) (fI64 (by omega) (by omega)) rfl rfl (fI64 (by omega) (by omega))) ?_
  refine hcons (kMax (isZ (m := 0) rfl) (isX rfl) (denX rfl) rfl) ?_
  refine hcons (kRem (isX rfl) (isZ (m := 8) rfl) (denX rfl) (by omega) (by omega) rfl) ?_
  refine hcons (kSub (isZ (m := 8) rfl) (isX rfl) (denX rfl) (by omega) (fI64 (by omega) (by omega))) ?_
  refine hcons (kRem (isX rfl) (isZ (m := 8) rfl) (denX rfl) (by omega) (by omega) rfl) ?_
  refine hcons (kEqI (isX rfl) (isX rfl) (decide_eq_true (by omega))) ?_
  exact hnil
theorem path47 (rt : Int) (ri : Int) (c : List UInt8) (rp : Int) (s : List UInt8) (n : Int) (b0 : -9223372036854775808 ≤ rt) (b1 : rt ≤ 9223372036854775807) (b2 : -9223372036854775808 ≤ ri) (b3 : ri ≤ 9223372036854775807) (b4 : c.length ≤ 9223372036854775807) (b5 : -9223372036854775808 ≤ rp) (b6 : rp ≤ 9223372036854775807) (b7 : s.length ≤ 9223372036854775807) (b8 : -9223372036854775808 ≤ n) (b9 : n ≤ 9223372036854775807) (h0 : ¬ (3000 < (s.length : Int))) (h1 : ¬ (70000 < (c.length : Int))) (h2 : ¬ ((s.length : Int) = 0)) (h3 : bt s 0 = 1) (h4 : ¬ ((s.length : Int) < 8)) (h5 : ¬ ((s.length : Int) < (bt s 4) * 256 + (bt s 5) + (bt s 6) + 8)) (h6 : ¬ (bt s 1 = 0)) (h9 : 1 ≤ rt) (h10 : rt ≤ 255) (h11 : 0 ≤ ri) (h12 : ri ≤ 65535) (h13 : (c.length : Int) ≤ 65535) (h14 : 0 ≤ rp) (h15 : ¬ (rp ≤ 255)) (w : World) (hl : laidE w) : Calls Tryd.prog 5 #[.agg #[.int .i64 rt, .int .i64 ri, St' c, .int .i64 rp], St' s, .int .i64 n] w fun e w' => e = .returned (.bool true) ∧ Go.AX.Below w.heap.size w w' := by
  obtain ⟨fi, hfi, hb⟩ : ∃ fi, tabk.fn.get 5 = some fi ∧ fi.body.isSome = true := ⟨_, rfl, by kernel_rfl⟩
  exact runP (tb := tab47) ((tabkOk (nuL (nu47 rt ri c rp s n)) (one47 rt ri c rp s n)).hyps (hyOk47 rt ri c rp s n b0 b1 b2 b3 b4 b5 b6 b7 b8 b9 h0 h1 h2 h3 h4 h5 h6 h9 h10 h11 h12 h13 h14 h15)) rfl hfi hb (fun e => run47 e ) (args := [.agg #[.int .i64 rt, .int .i64 ri, St' c, .int .i64 rp], St' s, .int .i64 n]) (by simp only [RelL, Rel]; exact ⟨_, _, rfl, ⟨_, rfl, ⟨_, _, rfl, rfl, ⟨_, _, rfl, rfl, ⟨_, _, rfl, rfl, ⟨_, _, rfl, rfl, rfl⟩⟩⟩⟩⟩, ⟨_, _, rfl, rfl, ⟨_, _, rfl, rfl, rfl⟩⟩⟩) w hl
end Go.Proofs.YtejdkoheodambaaDoor.recordTells
