/- A part of the proof: an interpreter of the model's own code on partly known states, and that what it answers is what the program answers. No condition of its own. -/
import Derived.Test.YtacflaaahanhgaaC1RecordJunkQ
set_option maxRecDepth 100000
set_option linter.unusedVariables false
set_option linter.unusedSimpArgs false
namespace Go.Proofs.Ytacflaaahanhgaa.recordJunk
open Go Go.AX Go.Proofs Go.Proofs.Ytacflaaahanhgaa
def hy0 : List (HK × AV) := [(.len (.x 0), .x 4),
  (.bin .gtr (.x 4) (.i .i64 (.ofNat 200)), .b false),
  (.bin .eql (.x 1) (.i .u8 (.ofNat 0)), .b false),
  (.conv 3 (.x 1), .x 5),
  (.bin .leq (.x 4) (.i .i64 (.ofNat 65535)), .b true),
  (.bin .geq (.x 5) (.i .i64 (.ofNat 0)), .b true),
  (.bin .leq (.x 5) (.i .i64 (.ofNat 255)), .b true),
  (.bin .shr (.x 4) (.i .u64 (.ofNat 8)), .x 6),
  (.conv 5 (.x 6), .x 7),
  (.conv 5 (.x 4), .x 8),
  (.conv 5 (.x 5), .x 9),
  (.bytes [.i .u8 (.ofNat 1), .i .u8 (.ofNat 5), .i .u8 (.ofNat 0), .i .u8 (.ofNat 3), .x 7, .x 8, .x 9, .i .u8 (.ofNat 0)], .x 10),
  (.bin .add (.x 10) (.x 0), .x 11),
  (.call 11 [.s 1 0, .x 5], .x 12),
  (.bin .add (.x 11) (.x 12), .x 13),
  (.fit (.x 13), .b true),
  (.len (.x 13), .x 14),
  (.bin .add (.i .i64 (.ofNat 8)) (.x 4), .x 15),
  (.bin .add (.x 15) (.x 5), .x 16),
  (.bin .neq (.x 14) (.x 16), .b false),
  (.bin .sub (.x 14) (.i .i64 (.ofNat 1)), .x 17),
  (.byt (.x 13) (.i .i64 (.ofNat 7)), .i .u8 (.ofNat 0)),
  (.set (.x 13) (.i .i64 (.ofNat 7)) (.x 2), .x 18),
  (.byt (.x 18) (.x 17), .x 19),
  (.set (.x 18) (.x 17) (.x 3), .x 20),
  (.bin .neq (.x 20) (.s 0 0), .b true),
  (.idx (.x 20) (.i .i64 (.ofNat 0)), .i .u8 (.ofNat 1)),
  (.len (.x 20), .x 21),
  (.bin .lss (.x 21) (.i .i64 (.ofNat 8)), .b false),
  (.idx (.x 20) (.i .i64 (.ofNat 4)), .x 22),
  (.conv 3 (.x 22), .x 23),
  (.bin .shl (.x 23) (.i .u64 (.ofNat 8)), .x 24),
  (.bin .add (.i .i64 (.ofNat 8)) (.x 24), .x 25),
  (.idx (.x 20) (.i .i64 (.ofNat 5)), .x 26),
  (.conv 3 (.x 26), .x 27),
  (.bin .add (.x 25) (.x 27), .x 28),
  (.idx (.x 20) (.i .i64 (.ofNat 6)), .x 29),
  (.conv 3 (.x 29), .x 30),
  (.bin .add (.x 28) (.x 30), .x 31),
  (.bin .lss (.x 21) (.x 31), .b false),
  (.idx (.x 20) (.i .i64 (.ofNat 1)), .i .u8 (.ofNat 5)),
  (.idx (.x 20) (.i .i64 (.ofNat 2)), .i .u8 (.ofNat 0)),
  (.idx (.x 20) (.i .i64 (.ofNat 3)), .i .u8 (.ofNat 3)),
  (.bin .sub (.x 31) (.x 30), .x 32),
  (.sub (.x 20) (some (.i .i64 (.ofNat 8))) (some (.x 32)), .x 33),
  (.sub (.x 20) (some (.x 31)) none, .x 34),
  (.eq 9 (.x 33) (.x 0), .b true),
  (.eq 3 (.x 30) (.x 5), .b true),
  (.bin .eql (.x 34) (.s 0 0), .b true)]
noncomputable def tab0 : Tab := { tabk with hyp := hy0 }
theorem run0 : okB (call tab0 9000 4 [.x 0, .x 1, .x 2, .x 3] ⟨H0 , 1, 0, 0⟩) = true := by kernel_rfl
def nu0 (c : List UInt8) (pad : Int) (a : Int) (b : Int) : List Value := [St' c,
  .int .u8 (pad),
  .int .u8 (a),
  .int .u8 (b),
  .int .i64 ((c.length : Int)),
  .int .i64 (pad),
  .int .i64 ((c.length : Int) / 256),
  .int .u8 (((c.length : Int) / 256) % 256),
  .int .u8 ((c.length : Int) % 256),
  .int .u8 (pad),
  St' ([u8 1, u8 5, u8 0, u8 3, u8 (((c.length : Int) / 256) % 256), u8 ((c.length : Int) % 256), u8 (pad), u8 0]),
  St' ([u8 1, u8 5, u8 0, u8 3, u8 (((c.length : Int) / 256) % 256), u8 ((c.length : Int) % 256), u8 (pad), u8 0] ++ c),
  St' (List.replicate (Int.toNat (pad)) 0),
  St' ([u8 1, u8 5, u8 0, u8 3, u8 (((c.length : Int) / 256) % 256), u8 ((c.length : Int) % 256), u8 (pad), u8 0] ++ (c ++ (List.replicate (Int.toNat (pad)) 0))),
  .int .i64 ((c.length : Int) + pad + 8),
  .int .i64 ((c.length : Int) + 8),
  .int .i64 ((c.length : Int) + pad + 8),
  .int .i64 ((c.length : Int) + pad + 7),
  St' ([u8 1, u8 5, u8 0, u8 3, u8 (((c.length : Int) / 256) % 256), u8 ((c.length : Int) % 256), u8 (pad), u8 (a)] ++ (c ++ (List.replicate (Int.toNat (pad)) 0))),
  .int .u8 (bt ([u8 1, u8 5, u8 0, u8 3, u8 (((c.length : Int) / 256) % 256), u8 ((c.length : Int) % 256), u8 (pad), u8 (a)] ++ (c ++ (List.replicate (Int.toNat (pad)) 0))) (Int.toNat ((c.length : Int) + pad + 7))),
  St' ([u8 1, u8 5, u8 0, u8 3, u8 (((c.length : Int) / 256) % 256), u8 ((c.length : Int) % 256), u8 (pad), u8 (a)] ++ (c ++ ((List.replicate (Int.toNat (pad - 1)) 0) ++ [u8 (b)]))),
  .int .i64 ((c.length : Int) + pad + 8),
  .int .u8 (((c.length : Int) / 256) % 256),
  .int .i64 ((((c.length : Int) / 256) % 256)),
  .int .i64 ((((c.length : Int) / 256) % 256) * 256),
  .int .i64 ((((c.length : Int) / 256) % 256) * 256 + 8),
  .int .u8 ((c.length : Int) % 256),
  .int .i64 (((c.length : Int) % 256)),
  .int .i64 ((((c.length : Int) / 256) % 256) * 256 + ((c.length : Int) % 256) + 8),
  .int .u8 (pad),
  .int .i64 (pad),
  .int .i64 ((((c.length : Int) / 256) % 256) * 256 + ((c.length : Int) % 256) + pad + 8),
  .int .i64 ((((c.length : Int) / 256) % 256) * 256 + ((c.length : Int) % 256) + 8),
  St' c,
  St' ([] : List UInt8)]
theorem one0 (c : List UInt8) (pad : Int) (a : Int) (b : Int) : ∀ j, j < 1000000 → (nuL (nu0 c pad a b) j).oneCell' = true := fun j _ => nuL_one (l := nu0 c pad a b) rfl j
set_option maxHeartbeats 2000000 in
theorem hyOk0 (c : List UInt8) (pad : Int) (a : Int) (b : Int) (b0 : c.length ≤ 9223372036854775807) (b1 : 0 ≤ pad) (b2 : pad ≤ 255) (b3 : 0 ≤ a) (b4 : a ≤ 255) (b5 : 0 ≤ b) (b6 : b ≤ 255) (h0 : ¬ (200 < (c.length : Int))) (h1 : ¬ (pad = 0)) : ∀ k r, (k, r) ∈ hy0 → HOk (cx (nuL (nu0 c pad a b)) (one0 c pad a b) 0 laidE laidE_stab) k r := by
  have := bt_lo ([u8 1, u8 5, u8 0, u8 3, u8 (((c.length : Int) / 256) % 256), u8 ((c.length : Int) % 256), u8 (pad), u8 (a)] ++ (c ++ (List.replicate (Int.toNat (pad)) 0))) (Int.toNat ((c.length : Int) + pad + 7)); have := bt_hi ([u8 1, u8 5, u8 0, u8 3, u8 (((c.length : Int) / 256) % 256), u8 ((c.length : Int) % 256), u8 (pad), u8 (a)] ++ (c ++ (List.replicate (Int.toNat (pad)) 0))) (Int.toNat ((c.length : Int) + pad + 7))
  unfold hy0
  refine hcons (kLenE (isX rfl) (denX rfl) (by first | omega | (simp <;> omega))) ?_
  refine hcons (kGt (isX rfl) (isZ (m := 200) rfl) (decide_eq_false (by omega))) ?_
  refine hcons (kEqI (isX rfl) (isZ (m := 0) rfl) (decide_eq_false (by omega))) ?_
  refine hcons (kConvF (isX rfl) tu3 (denX rfl) (fI64 (by omega) (by omega))) ?_
  refine hcons (kLe (isX rfl) (isZ (m := 65535) rfl) (decide_eq_true (by omega))) ?_
  refine hcons (kGe (isX rfl) (isZ (m := 0) rfl) (decide_eq_true (by omega))) ?_
  refine hcons (kLe (isX rfl) (isZ (m := 255) rfl) (decide_eq_true (by omega))) ?_
  refine hcons (kShrM 8 256 rfl (isX rfl) (isZ (m := 8) rfl) (denX rfl) rfl (by decide) (by omega) rfl) ?_
  refine hcons (kConv8 (isX rfl) tu5 (denX rfl) rfl) ?_
  refine hcons (kConv8 (isX rfl) tu5 (denX rfl) rfl) ?_
  refine hcons (kConvF (isX rfl) tu5 (denX rfl) (fU8 (by omega) (by omega))) ?_
  refine hcons (kBytesB (bs := [u8 1, u8 5, u8 0, u8 3, u8 (((c.length : Int) / 256) % 256), u8 ((c.length : Int) % 256), u8 (pad), u8 0]) (.cons (isB8 (isZ (m := 1) rfl) (by omega) (by omega)) (.cons (isB8 (isZ (m := 5) rfl) (by omega) (by omega)) (.cons (isB8 (isZ (m := 0) rfl) (by omega) (by omega)) (.cons (isB8 (isZ (m := 3) rfl) (by omega) (by omega)) (.cons (isB8 (isX rfl) (by omega) (by omega)) (.cons (isB8 (isX rfl) (by omega) (by omega)) (.cons (isB8 (isX rfl) (by omega) (by omega)) (.cons (isB8 (isZ (m := 0) rfl) (by omega) (by omega)) .nil)))))))) (denX rfl)) ?_
  refine hcons (kCat (isX rfl) (isX rfl) (denX rfl) (by first | rfl | (simp; done)) (by first | omega | (simp <;> omega))) ?_
  refine hcons (hokRep rfl rfl (by omega) (by omega)) ?_
  refine hcons (kCat (isX rfl) (isX rfl) (denX rfl) (by first | rfl | (simp; done)) (by first | omega | (simp <;> omega))) ?_
  refine hcons (kFit (isX rfl) (by first | omega | (simp <;> omega))) ?_
  refine hcons (kLenE (isX rfl) (denX rfl) (by first | omega | (simp <;> omega))) ?_
  refine hcons (kAdd (isZ (m := 8) rfl) (isX rfl) (denX rfl) (by omega) (fI64 (by omega) (by omega))) ?_
  refine hcons (kAdd (isX rfl) (isX rfl) (denX rfl) (by omega) (fI64 (by omega) (by omega))) ?_
  refine hcons (kNeI (isX rfl) (isX rfl) (neF (by omega))) ?_
  refine hcons (kSub (isX rfl) (isZ (m := 1) rfl) (denX rfl) (by omega) (fI64 (by omega) (by omega))) ?_
  refine hcons (kByt (i := 7) (isX rfl) (isZ (m := 7) rfl) (denZ (m := 0) rfl) (by omega) (by first | omega | (simp <;> omega)) (bt_at rfl (by omega) (by omega))) ?_
  refine hcons (kSet (i := 7) (isX rfl) (isZ (m := 7) rfl) (isX rfl) (denX rfl) rfl (by first | omega | (simp <;> omega)) (by omega) (by omega) rfl) ?_
  refine hcons (kByt (i := (Int.toNat ((c.length : Int) + pad + 7))) (isX rfl) (isX rfl) (denX rfl) (by omega) (by first | omega | (simp <;> omega)) rfl) ?_
  refine hcons (kSetLast (p := ([u8 1, u8 5, u8 0, u8 3, u8 (((c.length : Int) / 256) % 256), u8 ((c.length : Int) % 256), u8 (pad), u8 (a)] ++ c)) (N := pad) (isX rfl) (isX rfl) (isX rfl) (denX rfl) (by first | rfl | (simp; done)) (by omega) (by first | omega | (simp <;> omega)) (by omega) (by omega) (by first | rfl | (simp; done))) ?_
  refine hcons (kNeS (isX rfl) (isSx (l := ([] : List UInt8)) 0 0 rfl) (bnT (by first | exact nilT (by first | omega | (simp <;> omega)) | exact nilF (by first | omega | (simp <;> omega)) | exact nilT' (by first | omega | (simp <;> omega)) | exact nilF' (by first | omega | (simp <;> omega))))) ?_
  refine hcons (kIdxE (i := 0) (isX rfl) (isZ (m := 0) rfl) (denZ (m := 1) rfl) rfl (by first | omega | (simp <;> omega)) (bt_at rfl (by omega) (by omega))) ?_
  refine hcons (kLenE (isX rfl) (denX rfl) (by first | omega | (simp <;> omega))) ?_
  refine hcons (kLt (isX rfl) (isZ (m := 8) rfl) (decide_eq_false (by omega))) ?_
  refine hcons (kIdxE (i := 4) (isX rfl) (isZ (m := 4) rfl) (denX rfl) rfl (by first | omega | (simp <;> omega)) (bt_at rfl (by omega) (by omega))) ?_
  refine hcons (kConvF (isX rfl) tu3 (denX rfl) (fI64 (by omega) (by omega))) ?_
  refine hcons (kShlM 8 256 rfl (isX rfl) (isZ (m := 8) rfl) (denX rfl) rfl (by decide) (by omega) (fI64 (by omega) (by omega))) ?_
  refine hcons (kAdd (isZ (m := 8) rfl) (isX rfl) (denX rfl) (by omega) (fI64 (by omega) (by omega))) ?_
  refine hcons (kIdxE (i := 5) (isX rfl) (isZ (m := 5) rfl) (denX rfl) rfl (by first | omega | (simp <;> omega)) (bt_at rfl (by omega) (by omega))) ?_
  refine hcons (kConvF (isX rfl) tu3 (denX rfl) (fI64 (by omega) (by omega))) ?_
  refine hcons (kAdd (isX rfl) (isX rfl) (denX rfl) (by omega) (fI64 (by omega) (by omega))) ?_
  refine hcons (kIdxE (i := 6) (isX rfl) (isZ (m := 6) rfl) (denX rfl) rfl (by first | omega | (simp <;> omega)) (bt_at rfl (by omega) (by omega))) ?_
  refine hcons (kConvF (isX rfl) tu3 (denX rfl) (fI64 (by omega) (by omega))) ?_
  refine hcons (kAdd (isX rfl) (isX rfl) (denX rfl) (by omega) (fI64 (by omega) (by omega))) ?_
  refine hcons (kLt (isX rfl) (isX rfl) (decide_eq_false (by omega))) ?_
  refine hcons (kIdxE (i := 1) (isX rfl) (isZ (m := 1) rfl) (denZ (m := 5) rfl) rfl (by first | omega | (simp <;> omega)) (bt_at rfl (by omega) (by omega))) ?_
  refine hcons (kIdxE (i := 2) (isX rfl) (isZ (m := 2) rfl) (denZ (m := 0) rfl) rfl (by first | omega | (simp <;> omega)) (bt_at rfl (by omega) (by omega))) ?_
  refine hcons (kIdxE (i := 3) (isX rfl) (isZ (m := 3) rfl) (denZ (m := 3) rfl) rfl (by first | omega | (simp <;> omega)) (bt_at rfl (by omega) (by omega))) ?_
  refine hcons (kSub (isX rfl) (isX rfl) (denX rfl) (by omega) (fI64 (by omega) (by omega))) ?_
  refine hcons (kCut (isX rfl) (.inr ⟨_, _, rfl, (isZ (m := 8) rfl)⟩) (.inr ⟨_, _, rfl, (isX rfl)⟩) (p := [u8 1, u8 5, u8 0, u8 3, u8 (((c.length : Int) / 256) % 256), u8 ((c.length : Int) % 256), u8 (pad), u8 (a)]) (m := c) (q := ((List.replicate (Int.toNat (pad - 1)) 0) ++ [u8 (b)])) (by first | rfl | (simp; done)) (by first | omega | (simp <;> omega)) (by first | omega | (simp <;> omega)) (denX rfl)) ?_
  refine hcons (kCut (isX rfl) (.inr ⟨_, _, rfl, (isX rfl)⟩) (.inl ⟨rfl, rfl⟩) (p := ([u8 1, u8 5, u8 0, u8 3, u8 (((c.length : Int) / 256) % 256), u8 ((c.length : Int) % 256), u8 (pad), u8 (a)] ++ (c ++ ((List.replicate (Int.toNat (pad - 1)) 0) ++ [u8 (b)])))) (m := ([] : List UInt8)) (q := ([] : List UInt8)) (by first | rfl | (simp; done)) (by first | omega | (simp <;> omega)) (by first | omega | (simp <;> omega)) (denX rfl)) ?_
  refine hcons (kEqTS (isX rfl) (isX rfl) tu9 (decide_eq_true rfl)) ?_
  refine hcons (kEqT (isX rfl) (isX rfl) tu3 (decide_eq_true (by omega))) ?_
  refine hcons (kEqS (isX rfl) (isSx (l := ([] : List UInt8)) 0 0 rfl) (decide_eq_true rfl)) ?_
  exact hnil
theorem path0 (c : List UInt8) (pad : Int) (a : Int) (b : Int) (b0 : c.length ≤ 9223372036854775807) (b1 : 0 ≤ pad) (b2 : pad ≤ 255) (b3 : 0 ≤ a) (b4 : a ≤ 255) (b5 : 0 ≤ b) (b6 : b ≤ 255) (h0 : ¬ (200 < (c.length : Int))) (h1 : ¬ (pad = 0)) (w : World) (hl : laidE w) : Calls Try.prog 4 #[St' c, .int .u8 pad, .int .u8 a, .int .u8 b] w fun e w' => e = .returned (.bool true) ∧ Go.AX.Below (Go.AX.Fz.lt w.heap.size) w w' := by
  obtain ⟨fi, hfi, hb⟩ : ∃ fi, tabk.fn.get 4 = some fi ∧ fi.body.isSome = true := ⟨_, rfl, by kernel_rfl⟩
  exact runP (tb := tab0) ((tabkOk (nuL (nu0 c pad a b)) (one0 c pad a b)).hyps (hyOk0 c pad a b b0 b1 b2 b3 b4 b5 b6 h0 h1)) rfl hfi hb (run0 ) (args := [St' c, .int .u8 pad, .int .u8 a, .int .u8 b]) (by simp only [RelL, Rel]; exact ⟨_, _, rfl, rfl, ⟨_, _, rfl, rfl, ⟨_, _, rfl, rfl, ⟨_, _, rfl, rfl, rfl⟩⟩⟩⟩) w hl
def hy1 : List (HK × AV) := [(.len (.x 0), .x 4),
  (.bin .gtr (.x 4) (.i .i64 (.ofNat 200)), .b true)]
noncomputable def tab1 : Tab := { tabk with hyp := hy1 }
theorem run1 : okB (call tab1 9000 4 [.x 0, .x 1, .x 2, .x 3] ⟨H0 , 1, 0, 0⟩) = true := by kernel_rfl
def nu1 (c : List UInt8) (pad : Int) (a : Int) (b : Int) : List Value := [St' c,
  .int .u8 (pad),
  .int .u8 (a),
  .int .u8 (b),
  .int .i64 ((c.length : Int))]
theorem one1 (c : List UInt8) (pad : Int) (a : Int) (b : Int) : ∀ j, j < 1000000 → (nuL (nu1 c pad a b) j).oneCell' = true := fun j _ => nuL_one (l := nu1 c pad a b) rfl j
set_option maxHeartbeats 2000000 in
theorem hyOk1 (c : List UInt8) (pad : Int) (a : Int) (b : Int) (b0 : c.length ≤ 9223372036854775807) (b1 : 0 ≤ pad) (b2 : pad ≤ 255) (b3 : 0 ≤ a) (b4 : a ≤ 255) (b5 : 0 ≤ b) (b6 : b ≤ 255) (h0 : 200 < (c.length : Int)) : ∀ k r, (k, r) ∈ hy1 → HOk (cx (nuL (nu1 c pad a b)) (one1 c pad a b) 0 laidE laidE_stab) k r := by
  unfold hy1
  refine hcons (kLenE (isX rfl) (denX rfl) (by first | omega | (simp <;> omega))) ?_
  refine hcons (kGt (isX rfl) (isZ (m := 200) rfl) (decide_eq_true (by omega))) ?_
  exact hnil
theorem path1 (c : List UInt8) (pad : Int) (a : Int) (b : Int) (b0 : c.length ≤ 9223372036854775807) (b1 : 0 ≤ pad) (b2 : pad ≤ 255) (b3 : 0 ≤ a) (b4 : a ≤ 255) (b5 : 0 ≤ b) (b6 : b ≤ 255) (h0 : 200 < (c.length : Int)) (w : World) (hl : laidE w) : Calls Try.prog 4 #[St' c, .int .u8 pad, .int .u8 a, .int .u8 b] w fun e w' => e = .returned (.bool true) ∧ Go.AX.Below (Go.AX.Fz.lt w.heap.size) w w' := by
  obtain ⟨fi, hfi, hb⟩ : ∃ fi, tabk.fn.get 4 = some fi ∧ fi.body.isSome = true := ⟨_, rfl, by kernel_rfl⟩
  exact runP (tb := tab1) ((tabkOk (nuL (nu1 c pad a b)) (one1 c pad a b)).hyps (hyOk1 c pad a b b0 b1 b2 b3 b4 b5 b6 h0)) rfl hfi hb (run1 ) (args := [St' c, .int .u8 pad, .int .u8 a, .int .u8 b]) (by simp only [RelL, Rel]; exact ⟨_, _, rfl, rfl, ⟨_, _, rfl, rfl, ⟨_, _, rfl, rfl, ⟨_, _, rfl, rfl, rfl⟩⟩⟩⟩) w hl
def hy2 : List (HK × AV) := [(.len (.x 0), .x 4),
  (.bin .gtr (.x 4) (.i .i64 (.ofNat 200)), .b false),
  (.bin .eql (.x 1) (.i .u8 (.ofNat 0)), .b true)]
noncomputable def tab2 : Tab := { tabk with hyp := hy2 }
theorem run2 : okB (call tab2 9000 4 [.x 0, .x 1, .x 2, .x 3] ⟨H0 , 1, 0, 0⟩) = true := by kernel_rfl
def nu2 (c : List UInt8) (pad : Int) (a : Int) (b : Int) : List Value := [St' c,
  .int .u8 (pad),
  .int .u8 (a),
  .int .u8 (b),
  .int .i64 ((c.length : Int))]
theorem one2 (c : List UInt8) (pad : Int) (a : Int) (b : Int) : ∀ j, j < 1000000 → (nuL (nu2 c pad a b) j).oneCell' = true := fun j _ => nuL_one (l := nu2 c pad a b) rfl j
set_option maxHeartbeats 2000000 in
theorem hyOk2 (c : List UInt8) (pad : Int) (a : Int) (b : Int) (b0 : c.length ≤ 9223372036854775807) (b1 : 0 ≤ pad) (b2 : pad ≤ 255) (b3 : 0 ≤ a) (b4 : a ≤ 255) (b5 : 0 ≤ b) (b6 : b ≤ 255) (h0 : ¬ (200 < (c.length : Int))) (h1 : pad = 0) : ∀ k r, (k, r) ∈ hy2 → HOk (cx (nuL (nu2 c pad a b)) (one2 c pad a b) 0 laidE laidE_stab) k r := by
  unfold hy2
  refine hcons (kLenE (isX rfl) (denX rfl) (by first | omega | (simp <;> omega))) ?_
  refine hcons (kGt (isX rfl) (isZ (m := 200) rfl) (decide_eq_false (by omega))) ?_
  refine hcons (kEqI (isX rfl) (isZ (m := 0) rfl) (decide_eq_true (by omega))) ?_
  exact hnil
theorem path2 (c : List UInt8) (pad : Int) (a : Int) (b : Int) (b0 : c.length ≤ 9223372036854775807) (b1 : 0 ≤ pad) (b2 : pad ≤ 255) (b3 : 0 ≤ a) (b4 : a ≤ 255) (b5 : 0 ≤ b) (b6 : b ≤ 255) (h0 : ¬ (200 < (c.length : Int))) (h1 : pad = 0) (w : World) (hl : laidE w) : Calls Try.prog 4 #[St' c, .int .u8 pad, .int .u8 a, .int .u8 b] w fun e w' => e = .returned (.bool true) ∧ Go.AX.Below (Go.AX.Fz.lt w.heap.size) w w' := by
  obtain ⟨fi, hfi, hb⟩ : ∃ fi, tabk.fn.get 4 = some fi ∧ fi.body.isSome = true := ⟨_, rfl, by kernel_rfl⟩
  exact runP (tb := tab2) ((tabkOk (nuL (nu2 c pad a b)) (one2 c pad a b)).hyps (hyOk2 c pad a b b0 b1 b2 b3 b4 b5 b6 h0 h1)) rfl hfi hb (run2 ) (args := [St' c, .int .u8 pad, .int .u8 a, .int .u8 b]) (by simp only [RelL, Rel]; exact ⟨_, _, rfl, rfl, ⟨_, _, rfl, rfl, ⟨_, _, rfl, rfl, ⟨_, _, rfl, rfl, rfl⟩⟩⟩⟩) w hl
end Go.Proofs.Ytacflaaahanhgaa.recordJunk
