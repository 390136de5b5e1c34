/- A part of the proof: an interpreter of the model's own code on partly known states, and that what it answers is what the program answers. No condition of its own. -/
import Derived.Test.YticlhkekkfelpaaDoorB5PairLongO
set_option maxRecDepth 100000
set_option linter.unusedVariables false
set_option linter.unusedSimpArgs false
namespace Go.Proofs.YticlhkekkfelpaaDoor.pairLong
open Go Go.AX Go.Proofs Go.Proofs.YticlhkekkfelpaaDoor
def hy0 : List (HK × AV) := [(.bin .rem (.x 0) (.i .u8 (.ofNat 100)), .x 2),
  (.zer (.x 2), .x 3),
  (.bin .rem (.x 1) (.i .u8 (.ofNat 100)), .x 4),
  (.zer (.x 4), .x 5),
  (.bytes [.i .u8 (.ofNat 128), .i .u8 (.ofNat 0), .i .u8 (.ofNat 0), .x 2, .i .u8 (.ofNat 128), .i .u8 (.ofNat 0), .i .u8 (.ofNat 0), .x 4], .x 6),
  (.bin .add (.x 6) (.x 3), .x 7),
  (.bin .add (.x 7) (.x 5), .x 8),
  (.bin .neq (.x 8) (.s 0 0), .b true),
  (.bin .eql (.x 8) (.s 0 0), .b false),
  (.idx (.x 8) (.i .i64 (.ofNat 0)), .i .u8 (.ofNat 128)),
  (.len (.x 8), .x 9),
  (.bin .lss (.x 9) (.i .i64 (.ofNat 4)), .b false),
  (.idx (.x 8) (.i .i64 (.ofNat 1)), .i .u8 (.ofNat 0)),
  (.idx (.x 8) (.i .i64 (.ofNat 2)), .i .u8 (.ofNat 0)),
  (.idx (.x 8) (.i .i64 (.ofNat 3)), .x 10),
  (.conv 3 (.x 10), .x 11),
  (.bin .or (.i .i64 (.ofNat 0)) (.x 11), .x 12),
  (.sub (.x 8) (some (.i .i64 (.ofNat 4))) none, .x 13),
  (.bin .eql (.x 13) (.s 0 0), .b false),
  (.idx (.x 13) (.i .i64 (.ofNat 0)), .i .u8 (.ofNat 128)),
  (.len (.x 13), .x 14),
  (.bin .lss (.x 14) (.i .i64 (.ofNat 4)), .b false),
  (.idx (.x 13) (.i .i64 (.ofNat 1)), .i .u8 (.ofNat 0)),
  (.idx (.x 13) (.i .i64 (.ofNat 2)), .i .u8 (.ofNat 0)),
  (.idx (.x 13) (.i .i64 (.ofNat 3)), .x 15),
  (.conv 3 (.x 15), .x 16),
  (.bin .or (.i .i64 (.ofNat 0)) (.x 16), .x 17),
  (.sub (.x 13) (some (.i .i64 (.ofNat 4))) none, .x 18),
  (.len (.x 18), .x 19),
  (.bin .lss (.x 19) (.x 12), .b false),
  (.bin .sub (.x 19) (.x 12), .x 20),
  (.bin .lss (.x 20) (.x 17), .b false),
  (.sub (.x 18) none (some (.x 12)), .x 21),
  (.bin .add (.x 12) (.x 17), .x 22),
  (.sub (.x 18) (some (.x 12)) (some (.x 22)), .x 23),
  (.sub (.x 18) (some (.x 22)) none, .x 24),
  (.bin .neq (.x 24) (.s 0 0), .b false),
  (.bin .sub (.x 9) (.i .i64 (.ofNat 1)), .x 25),
  (.sub (.x 8) none (some (.x 25)), .x 26),
  (.bin .neq (.x 26) (.s 0 0), .b true),
  (.bin .eql (.x 26) (.s 0 0), .b false),
  (.idx (.x 26) (.i .i64 (.ofNat 0)), .i .u8 (.ofNat 128)),
  (.len (.x 26), .x 27),
  (.bin .lss (.x 27) (.i .i64 (.ofNat 4)), .b false),
  (.idx (.x 26) (.i .i64 (.ofNat 1)), .i .u8 (.ofNat 0)),
  (.idx (.x 26) (.i .i64 (.ofNat 2)), .i .u8 (.ofNat 0)),
  (.idx (.x 26) (.i .i64 (.ofNat 3)), .x 28),
  (.conv 3 (.x 28), .x 29),
  (.bin .or (.i .i64 (.ofNat 0)) (.x 29), .x 30),
  (.sub (.x 26) (some (.i .i64 (.ofNat 4))) none, .x 31),
  (.bin .eql (.x 31) (.s 0 0), .b false),
  (.idx (.x 31) (.i .i64 (.ofNat 0)), .i .u8 (.ofNat 128)),
  (.len (.x 31), .x 32),
  (.bin .lss (.x 32) (.i .i64 (.ofNat 4)), .b false),
  (.idx (.x 31) (.i .i64 (.ofNat 1)), .i .u8 (.ofNat 0)),
  (.idx (.x 31) (.i .i64 (.ofNat 2)), .i .u8 (.ofNat 0)),
  (.idx (.x 31) (.i .i64 (.ofNat 3)), .x 33),
  (.conv 3 (.x 33), .x 34),
  (.bin .or (.i .i64 (.ofNat 0)) (.x 34), .x 35),
  (.sub (.x 31) (some (.i .i64 (.ofNat 4))) none, .x 36),
  (.len (.x 36), .x 37),
  (.bin .lss (.x 37) (.x 30), .b false),
  (.bin .sub (.x 37) (.x 30), .x 38),
  (.bin .lss (.x 38) (.x 35), .b true),
  (.bin .eql (.x 21) (.x 3), .b true),
  (.bin .eql (.x 23) (.x 5), .b true)]
noncomputable def tab0 : Tab := { tabk with hyp := hy0 }
theorem run0 (e : Nat) : okB (call tab0 9000 3 [.x 0, .x 1] ⟨H0 e , 7, 0, 0⟩) = true := by kernel_rfl
def nu0 (n : Int) (m : Int) : List Value := [.int .u8 (n),
  .int .u8 (m),
  .int .u8 (n % 100),
  St' ((List.replicate (Int.toNat (n % 100)) 0)),
  .int .u8 (m % 100),
  St' ((List.replicate (Int.toNat (m % 100)) 0)),
  St' ([u8 128, u8 0, u8 0, u8 (n % 100), u8 128, u8 0, u8 0, u8 (m % 100)]),
  St' (([u8 128, u8 0, u8 0, u8 (n % 100), u8 128, u8 0, u8 0, u8 (m % 100)] ++ (List.replicate (Int.toNat (n % 100)) 0))),
  St' (([u8 128, u8 0, u8 0, u8 (n % 100), u8 128, u8 0, u8 0, u8 (m % 100)] ++ ((List.replicate (Int.toNat (n % 100)) 0) ++ (List.replicate (Int.toNat (m % 100)) 0)))),
  .int .i64 ((m % 100) + (n % 100) + 8),
  .int .u8 (n % 100),
  .int .i64 ((n % 100)),
  .int .i64 ((n % 100)),
  St' (([u8 128, u8 0, u8 0, u8 (m % 100)] ++ ((List.replicate (Int.toNat (n % 100)) 0) ++ (List.replicate (Int.toNat (m % 100)) 0)))),
  .int .i64 ((m % 100) + (n % 100) + 4),
  .int .u8 (m % 100),
  .int .i64 ((m % 100)),
  .int .i64 ((m % 100)),
  St' (((List.replicate (Int.toNat (n % 100)) 0) ++ (List.replicate (Int.toNat (m % 100)) 0))),
  .int .i64 ((m % 100) + (n % 100)),
  .int .i64 ((m % 100)),
  St' ((List.replicate (Int.toNat (n % 100)) 0)),
  .int .i64 ((m % 100) + (n % 100)),
  St' ((List.replicate (Int.toNat (m % 100)) 0)),
  St' (([] : List UInt8)),
  .int .i64 ((m % 100) + (n % 100) + 7),
  St' (([u8 128, u8 0, u8 0, u8 (n % 100), u8 128, u8 0, u8 0, u8 (m % 100)] ++ ((List.replicate (Int.toNat (n % 100)) 0) ++ (List.replicate (Int.toNat ((m % 100) - 1)) 0)))),
  .int .i64 ((m % 100) + (n % 100) + 7),
  .int .u8 (n % 100),
  .int .i64 ((n % 100)),
  .int .i64 ((n % 100)),
  St' (([u8 128, u8 0, u8 0, u8 (m % 100)] ++ ((List.replicate (Int.toNat (n % 100)) 0) ++ (List.replicate (Int.toNat ((m % 100) - 1)) 0)))),
  .int .i64 ((m % 100) + (n % 100) + 3),
  .int .u8 (m % 100),
  .int .i64 ((m % 100)),
  .int .i64 ((m % 100)),
  St' (((List.replicate (Int.toNat (n % 100)) 0) ++ (List.replicate (Int.toNat ((m % 100) - 1)) 0))),
  .int .i64 ((m % 100) + (n % 100) - 1),
  .int .i64 ((m % 100) - 1)]
theorem one0 (n : Int) (m : Int) : ∀ j, (nuL (nu0 n m) j).oneCell' = true := nuL_one (l := nu0 n m) rfl
set_option maxHeartbeats 2000000 in
theorem hyOk0 (n : Int) (m : Int) (b0 : 0 ≤ n) (b1 : n ≤ 255) (b2 : 0 ≤ m) (b3 : m ≤ 255) (h7 : (n % 100) + 8 ≤ (m % 100) + (n % 100) + 7) : ∀ k r, (k, r) ∈ hy0 → HOk (cx (nuL (nu0 n m)) (one0 n m) 1 laidE laidE_stab) k r := by
  unfold hy0
  refine hcons (kRem (isX rfl) (isZ (m := 100) rfl) (denX rfl) (by omega) (by omega) rfl) ?_
  refine hcons (kZer (isX rfl) (by omega) (by omega) (denX rfl)) ?_
  refine hcons (kRem (isX rfl) (isZ (m := 100) rfl) (denX rfl) (by omega) (by omega) rfl) ?_
  refine hcons (kZer (isX rfl) (by omega) (by omega) (denX rfl)) ?_
  refine hcons (kBytesB (bs := [u8 128, u8 0, u8 0, u8 (n % 100), u8 128, u8 0, u8 0, u8 (m % 100)]) (.cons (isB8 (isZ (m := 128) rfl) (by omega) (by omega)) (.cons (isB8 (isZ (m := 0) rfl) (by omega) (by omega)) (.cons (isB8 (isZ (m := 0) rfl) (by omega) (by omega)) (.cons (isB8 (isX rfl) (by omega) (by omega)) (.cons (isB8 (isZ (m := 128) rfl) (by omega) (by omega)) (.cons (isB8 (isZ (m := 0) rfl) (by omega) (by omega)) (.cons (isB8 (isZ (m := 0) rfl) (by omega) (by omega)) (.cons (isB8 (isX rfl) (by omega) (by omega)) .nil)))))))) (denX rfl)) ?_
  refine hcons (kCat (isX rfl) (isX rfl) (denX rfl) (by first | rfl | (simp only [List.append_assoc, List.cons_append, List.nil_append, List.append_nil]; done)) (by first | omega | (simp only [List.length_append, List.length_cons, List.length_nil, List.length_take, List.length_drop, List.length_replicate, Int.natCast_add] at * <;> omega))) ?_
  refine hcons (kCat (isX rfl) (isX rfl) (denX rfl) (by first | rfl | (simp only [List.append_assoc, List.cons_append, List.nil_append, List.append_nil]; done)) (by first | omega | (simp only [List.length_append, List.length_cons, List.length_nil, List.length_take, List.length_drop, List.length_replicate, Int.natCast_add] at * <;> omega))) ?_
  refine hcons (kNeS (isX rfl) (isSx (l := ([] : List UInt8)) 0 0 rfl) (bnT (by first | exact nilT (by first | omega | (simp only [List.length_append, List.length_cons, List.length_nil, List.length_take, List.length_drop, List.length_replicate, Int.natCast_add] at * <;> omega)) | exact nilF (by first | omega | (simp only [List.length_append, List.length_cons, List.length_nil, List.length_take, List.length_drop, List.length_replicate, Int.natCast_add] at * <;> omega)) | exact nilT' (by first | omega | (simp only [List.length_append, List.length_cons, List.length_nil, List.length_take, List.length_drop, List.length_replicate, Int.natCast_add] at * <;> omega)) | exact nilF' (by first | omega | (simp only [List.length_append, List.length_cons, List.length_nil, List.length_take, List.length_drop, List.length_replicate, Int.natCast_add] at * <;> omega))))) ?_
  refine hcons (kEqS (isX rfl) (isSx (l := ([] : List UInt8)) 0 0 rfl) (by first | exact nilT (by first | omega | (simp only [List.length_append, List.length_cons, List.length_nil, List.length_take, List.length_drop, List.length_replicate, Int.natCast_add] at * <;> omega)) | exact nilF (by first | omega | (simp only [List.length_append, List.length_cons, List.length_nil, List.length_take, List.length_drop, List.length_replicate, Int.natCast_add] at * <;> omega)) | exact nilT' (by first | omega | (simp only [List.length_append, List.length_cons, List.length_nil, List.length_take, List.length_drop, List.length_replicate, Int.natCast_add] at * <;> omega)) | exact nilF' (by first | omega | (simp only [List.length_append, List.length_cons, List.length_nil, List.length_take, List.length_drop, List.length_replicate, Int.natCast_add] at * <;> omega)))) ?_
  refine hcons (kIdxE (i := 0) (isX rfl) (isZ (m := 0) rfl) (denZ (m := 128) rfl) rfl (by first | omega | (simp only [List.length_append, List.length_cons, List.length_nil, List.length_take, List.length_drop, List.length_replicate, Int.natCast_add] at * <;> omega)) (bt_at rfl (by omega) (by omega))) ?_
  refine hcons (kLenE (isX rfl) (denX rfl) (by first | omega | (simp only [List.length_append, List.length_cons, List.length_nil, List.length_take, List.length_drop, List.length_replicate, Int.natCast_add] at * <;> omega))) ?_
  refine hcons (kLt (isX rfl) (isZ (m := 4) rfl) (decide_eq_false (by omega))) ?_
  refine hcons (kIdxE (i := 1) (isX rfl) (isZ (m := 1) rfl) (denZ (m := 0) rfl) rfl (by first | omega | (simp only [List.length_append, List.length_cons, List.length_nil, List.length_take, List.length_drop, List.length_replicate, Int.natCast_add] at * <;> omega)) (bt_at rfl (by omega) (by omega))) ?_
  refine hcons (kIdxE (i := 2) (isX rfl) (isZ (m := 2) rfl) (denZ (m := 0) rfl) rfl (by first | omega | (simp only [List.length_append, List.length_cons, List.length_nil, List.length_take, List.length_drop, List.length_replicate, Int.natCast_add] at * <;> omega)) (bt_at rfl (by omega) (by omega))) ?_
  refine hcons (kIdxE (i := 3) (isX rfl) (isZ (m := 3) rfl) (denX rfl) rfl (by first | omega | (simp only [List.length_append, List.length_cons, List.length_nil, List.length_take, List.length_drop, List.length_replicate, Int.natCast_add] at * <;> omega)) (bt_at rfl (by omega) (by omega))) ?_
  refine hcons (kConvF (isX rfl) tu3 (denX rfl) (fI64 (by omega) (by omega))) ?_
  refine hcons (kOrM 7 128 rfl (isZ (m := 0) rfl) (isX rfl) (denX rfl) (by omega) (by omega) (fI64 (by omega) (by omega)) (fI64 (by omega) (by omega)) (by omega) (by omega) (by omega) (fI64 (by omega) (by omega))) ?_
  refine hcons (kCut (isX rfl) (.inr ⟨_, _, rfl, (isZ (m := 4) rfl)⟩) (.inl ⟨rfl, rfl⟩) (p := [u8 128, u8 0, u8 0, u8 (n % 100)]) (m := ([u8 128, u8 0, u8 0, u8 (m % 100)] ++ ((List.replicate (Int.toNat (n % 100)) 0) ++ (List.replicate (Int.toNat (m % 100)) 0)))) (q := ([] : List UInt8)) (by first | rfl | (simp only [List.append_assoc, List.cons_append, List.nil_append, List.append_nil]; done)) (by first | omega | (simp only [List.length_append, List.length_cons, List.length_nil, List.length_take, List.length_drop, List.length_replicate, Int.natCast_add] at * <;> omega)) (by first | omega | (simp only [List.length_append, List.length_cons, List.length_nil, List.length_take, List.length_drop, List.length_replicate, Int.natCast_add] at * <;> omega)) (denX rfl)) ?_
  refine hcons (kEqS (isX rfl) (isSx (l := ([] : List UInt8)) 0 0 rfl) (by first | exact nilT (by first | omega | (simp only [List.length_append, List.length_cons, List.length_nil, List.length_take, List.length_drop, List.length_replicate, Int.natCast_add] at * <;> omega)) | exact nilF (by first | omega | (simp only [List.length_append, List.length_cons, List.length_nil, List.length_take, List.length_drop, List.length_replicate, Int.natCast_add] at * <;> omega)) | exact nilT' (by first | omega | (simp only [List.length_append, List.length_cons, List.length_nil, List.length_take, List.length_drop, List.length_replicate, Int.natCast_add] at * <;> omega)) | exact nilF' (by first | omega | (simp only [List.length_append, List.length_cons, List.length_nil, List.length_take, List.length_drop, List.length_replicate, Int.natCast_add] at * <;> omega)))) ?_
  refine hcons (kIdxE (i := 0) (isX rfl) (isZ (m := 0) rfl) (denZ (m := 128) rfl) rfl (by first | omega | (simp only [List.length_append, List.length_cons, List.length_nil, List.length_take, List.length_drop, List.length_replicate, Int.natCast_add] at * <;> omega)) (bt_at rfl (by omega) (by omega))) ?_
  refine hcons (kLenE (isX rfl) (denX rfl) (by first | omega | (simp only [List.length_append, List.length_cons, List.length_nil, List.length_take, List.length_drop, List.length_replicate, Int.natCast_add] at * <;> omega))) ?_
  refine hcons (kLt (isX rfl) (isZ (m := 4) rfl) (decide_eq_false (by omega))) ?_
  refine hcons (kIdxE (i := 1) (isX rfl) (isZ (m := 1) rfl) (denZ (m := 0) rfl) rfl (by first | omega | (simp only [List.length_append, List.length_cons, List.length_nil, List.length_take, List.length_drop, List.length_replicate, Int.natCast_add] at * <;> omega)) (bt_at rfl (by omega) (by omega))) ?_
  refine hcons (kIdxE (i := 2) (isX rfl) (isZ (m := 2) rfl) (denZ (m := 0) rfl) rfl (by first | omega | (simp only [List.length_append, List.length_cons, List.length_nil, List.length_take, List.length_drop, List.length_replicate, Int.natCast_add] at * <;> omega)) (bt_at rfl (by omega) (by omega))) ?_
  refine hcons (kIdxE (i := 3) (isX rfl) (isZ (m := 3) rfl) (denX rfl) rfl (by first | omega | (simp only [List.length_append, List.length_cons, List.length_nil, List.length_take, List.length_drop, List.length_replicate, Int.natCast_add] at * <;> omega)) (bt_at rfl (by omega) (by omega))) ?_
  refine hcons (kConvF (isX rfl) tu3 (denX rfl) (fI64 (by omega) (by omega))) ?_
  refine hcons (kOrM 7 128 rfl (isZ (m := 0) rfl) (isX rfl) (denX rfl) (by omega) (by omega) (fI64 (by omega) (by omega)) (fI64 (by omega) (by omega)) (by omega) (by omega) (by omega) (fI64 (by omega) (by omega))) ?_
  refine hcons (kCut (isX rfl) (.inr ⟨_, _, rfl, (isZ (m := 4) rfl)⟩) (.inl ⟨rfl, rfl⟩) (p := [u8 128, u8 0, u8 0, u8 (m % 100)]) (m := ((List.replicate (Int.toNat (n % 100)) 0) ++ (List.replicate (Int.toNat (m % 100)) 0))) (q := ([] : List UInt8)) (by first | rfl | (simp only [List.append_assoc, List.cons_append, List.nil_append, List.append_nil]; done)) (by first | omega | (simp only [List.length_append, List.length_cons, List.length_nil, List.length_take, List.length_drop, List.length_replicate, Int.natCast_add] at * <;> omega)) (by first | omega | (simp only [List.length_append, List.length_cons, List.length_nil, List.length_take, List.length_drop, List.length_replicate, Int.natCast_add] at * <;> omega)) (denX rfl)) ?_
  refine hcons (kLenE (isX rfl) (denX rfl) (by first | omega | (simp only [List.length_append, List.length_cons, List.length_nil, List.length_take, List.length_drop, List.length_replicate, Int.natCast_add] at * <;> omega))) ?_
  refine hcons (kLt (isX rfl) (isX rfl) (decide_eq_false (by omega))) ?_
  refine hcons (kSub (isX rfl) (isX rfl) (denX rfl) (by omega) (fI64 (by omega) (by omega))) ?_
  refine hcons (kLt (isX rfl) (isX rfl) (decide_eq_false (by omega))) ?_
  refine hcons (kCut (isX rfl) (.inl ⟨rfl, rfl⟩) (.inr ⟨_, _, rfl, (isX rfl)⟩) (p := ([] : List UInt8)) (m := (List.replicate (Int.toNat (n % 100)) 0)) (q := (List.replicate (Int.toNat (m % 100)) 0)) (by first | rfl | (simp only [List.append_assoc, List.cons_append, List.nil_append, List.append_nil]; done)) (by first | omega | (simp only [List.length_append, List.length_cons, List.length_nil, List.length_take, List.length_drop, List.length_replicate, Int.natCast_add] at * <;> omega)) (by first | omega | (simp only [List.length_append, List.length_cons, List.length_nil, List.length_take, List.length_drop, List.length_replicate, Int.natCast_add] at * <;> omega)) (denX rfl)) ?_
  refine hcons (kAdd (isX rfl) (isX rfl) (denX rfl) (by omega) (fI64 (by omega) (by omega))) ?_
  refine hcons (kCut (isX rfl) (.inr ⟨_, _, rfl, (isX rfl)⟩) (.inr ⟨_, _, rfl, (isX rfl)⟩) (p := (List.replicate (Int.toNat (n % 100)) 0)) (m := (List.replicate (Int.toNat (m % 100)) 0)) (q := ([] : List UInt8)) (by first | rfl | (simp only [List.append_assoc, List.cons_append, List.nil_append, List.append_nil]; done)) (by first | omega | (simp only [List.length_append, List.length_cons, List.length_nil, List.length_take, List.length_drop, List.length_replicate, Int.natCast_add] at * <;> omega)) (by first | omega | (simp only [List.length_append, List.length_cons, List.length_nil, List.length_take, List.length_drop, List.length_replicate, Int.natCast_add] at * <;> omega)) (denX rfl)) ?_
  refine hcons (kCut (isX rfl) (.inr ⟨_, _, rfl, (isX rfl)⟩) (.inl ⟨rfl, rfl⟩) (p := ((List.replicate (Int.toNat (n % 100)) 0) ++ (List.replicate (Int.toNat (m % 100)) 0))) (m := ([] : List UInt8)) (q := ([] : List UInt8)) (by first | rfl | (simp only [List.append_assoc, List.cons_append, List.nil_append, List.append_nil]; done)) (by first | omega | (simp only [List.length_append, List.length_cons, List.length_nil, List.length_take, List.length_drop, List.length_replicate, Int.natCast_add] at * <;> omega)) (by first | omega | (simp only [List.length_append, List.length_cons, List.length_nil, List.length_take, List.length_drop, List.length_replicate, Int.natCast_add] at * <;> omega)) (denX rfl)) ?_
  refine hcons (kNeS (isX rfl) (isSx (l := ([] : List UInt8)) 0 0 rfl) (bnF (decide_eq_true rfl))) ?_
  refine hcons (kSub (isX rfl) (isZ (m := 1) rfl) (denX rfl) (by omega) (fI64 (by omega) (by omega))) ?_
  refine hcons (kCut (isX rfl) (.inl ⟨rfl, rfl⟩) (.inr ⟨_, _, rfl, (isX rfl)⟩) (p := []) (m := ([u8 128, u8 0, u8 0, u8 (n % 100), u8 128, u8 0, u8 0, u8 (m % 100)] ++ ((List.replicate (Int.toNat (n % 100)) 0) ++ (List.replicate (Int.toNat ((m % 100) - 1)) 0)))) (q := (List.replicate (Int.toNat (1)) 0)) (by rw [repSplit (E := m % 100) (a := (m % 100) - 1) (b := 1) (by omega) (by omega) (by omega)]; first | rfl | (simp only [List.append_assoc, List.cons_append, List.nil_append, List.append_nil]; done)) (by first | omega | (simp only [List.length_append, List.length_cons, List.length_nil, List.length_take, List.length_drop, List.length_replicate, Int.natCast_add] at * <;> omega)) (by first | omega | (simp only [List.length_append, List.length_cons, List.length_nil, List.length_take, List.length_drop, List.length_replicate, Int.natCast_add] at * <;> omega)) (denX rfl)) ?_
  refine hcons (kNeS (isX rfl) (isSx (l := ([] : List UInt8)) 0 0 rfl) (bnT (by first | exact nilT (by first | omega | (simp only [List.length_append, List.length_cons, List.length_nil, List.length_take, List.length_drop, List.length_replicate, Int.natCast_add] at * <;> omega)) | exact nilF (by first | omega | (simp only [List.length_append, List.length_cons, List.length_nil, List.length_take, List.length_drop, List.length_replicate, Int.natCast_add] at * <;> omega)) | exact nilT' (by first | omega | (simp only [List.length_append, List.length_cons, List.length_nil, List.length_take, List.length_drop, List.length_replicate, Int.natCast_add] at * <;> omega)) | exact nilF' (by first | omega | (simp only [List.length_append, List.length_cons, List.length_nil, List.length_take, List.length_drop, List.length_replicate, Int.natCast_add] at * <;> omega))))) ?_
  refine hcons (kEqS (isX rfl) (isSx (l := ([] : List UInt8)) 0 0 rfl) (by first | exact nilT (by first | omega | (simp only [List.length_append, List.length_cons, List.length_nil, List.length_take, List.length_drop, List.length_replicate, Int.natCast_add] at * <;> omega)) | exact nilF (by first | omega | (simp only [List.length_append, List.length_cons, List.length_nil, List.length_take, List.length_drop, List.length_replicate, Int.natCast_add] at * <;> omega)) | exact nilT' (by first | omega | (simp only [List.length_append, List.length_cons, List.length_nil, List.length_take, List.length_drop, List.length_replicate, Int.natCast_add] at * <;> omega)) | exact nilF' (by first | omega | (simp only [List.length_append, List.length_cons, List.length_nil, List.length_take, List.length_drop, List.length_replicate, Int.natCast_add] at * <;> omega)))) ?_
  refine hcons (kIdxE (i := 0) (isX rfl) (isZ (m := 0) rfl) (denZ (m := 128) rfl) rfl (by first | omega | (simp only [List.length_append, List.length_cons, List.length_nil, List.length_take, List.length_drop, List.length_replicate, Int.natCast_add] at * <;> omega)) (bt_at rfl (by omega) (by omega))) ?_
  refine hcons (kLenE (isX rfl) (denX rfl) (by first | omega | (simp only [List.length_append, List.length_cons, List.length_nil, List.length_take, List.length_drop, List.length_replicate, Int.natCast_add] at * <;> omega))) ?_
  refine hcons (kLt (isX rfl) (isZ (m := 4) rfl) (decide_eq_false (by omega))) ?_
  refine hcons (kIdxE (i := 1) (isX rfl) (isZ (m := 1) rfl) (denZ (m := 0) rfl) rfl (by first | omega | (simp only [List.length_append, List.length_cons, List.length_nil, List.length_take, List.length_drop, List.length_replicate, Int.natCast_add] at * <;> omega)) (bt_at rfl (by omega) (by omega))) ?_
  refine hcons (kIdxE (i := 2) (isX rfl) (isZ (m := 2) rfl) (denZ (m := 0) rfl) rfl (by first | omega | (simp only [List.length_append, List.length_cons, List.length_nil, List.length_take, List.length_drop, List.length_replicate, Int.natCast_add] at * <;> omega)) (bt_at rfl (by omega) (by omega))) ?_
  refine hcons (kIdxE (i := 3) (isX rfl) (isZ (m := 3) rfl) (denX rfl) rfl (by first | omega | (simp only [List.length_append, List.length_cons, List.length_nil, List.length_take, List.length_drop, List.length_replicate, Int.natCast_add] at * <;> omega)) (bt_at rfl (by omega) (by omega))) ?_
  refine hcons (kConvF (isX rfl) tu3 (denX rfl) (fI64 (by omega) (by omega))) ?_
  refine hcons (kOrM 7 128 rfl (isZ (m := 0) rfl) (isX rfl) (denX rfl) (by omega) (by omega) (fI64 (by omega) (by omega)) (fI64 (by omega) (by omega)) (by omega) (by omega) (by omega) (fI64 (by omega) (by omega))) ?_
  refine hcons (kCut (isX rfl) (.inr ⟨_, _, rfl, (isZ (m := 4) rfl)⟩) (.inl ⟨rfl, rfl⟩) (p := [u8 128, u8 0, u8 0, u8 (n % 100)]) (m := ([u8 128, u8 0, u8 0, u8 (m % 100)] ++ ((List.replicate (Int.toNat (n % 100)) 0) ++ (List.replicate (Int.toNat ((m % 100) - 1)) 0)))) (q := ([] : List UInt8)) (by first | rfl | (simp only [List.append_assoc, List.cons_append, List.nil_append, List.append_nil]; done)) (by first | omega | (simp only [List.length_append, List.length_cons, List.length_nil, List.length_take, List.length_drop, List.length_replicate, Int.natCast_add] at * <;> omega)) (by first | omega | (simp only [List.length_append, List.length_cons, List.length_nil, List.length_take, List.length_drop, List.length_replicate, Int.natCast_add] at * <;> omega)) (denX rfl)) ?_
  refine hcons (kEqS (isX rfl) (isSx (l := ([] : List UInt8)) 0 0 rfl) (by first | exact nilT (by first | omega | (simp only [List.length_append, List.length_cons, List.length_nil, List.length_take, List.length_drop, List.length_replicate, Int.natCast_add] at * <;> omega)) | exact nilF (by first | omega | (simp only [List.length_append, List.length_cons, List.length_nil, List.length_take, List.length_drop, List.length_replicate, Int.natCast_add] at * <;> omega)) | exact nilT' (by first | omega | (simp only [List.length_append, List.length_cons, List.length_nil, List.length_take, List.length_drop, List.length_replicate, Int.natCast_add] at * <;> omega)) | exact nilF' (by first | omega | (simp only [List.length_append, List.length_cons, List.length_nil, List.length_take, List.length_drop, List.length_replicate, Int.natCast_add] at * <;> omega)))) ?_
  refine hcons (kIdxE (i := 0) (isX rfl) (isZ (m := 0) rfl) (denZ (m := 128) rfl) rfl (by first | omega | (simp only [List.length_append, List.length_cons, List.length_nil, List.length_take, List.length_drop, List.length_replicate, Int.natCast_add] at * <;> omega)) (bt_at rfl (by omega) (by omega))) ?_
  refine hcons (kLenE (isX rfl) (denX rfl) (by first | omega | (simp only [List.length_append, List.length_cons, List.length_nil, List.length_take, List.length_drop, List.length_replicate, Int.natCast_add] at * <;> omega))) ?_
  refine hcons (kLt (isX rfl) (isZ (m := 4) rfl) (decide_eq_false (by omega))) ?_
  refine hcons (kIdxE (i := 1) (isX rfl) (isZ (m := 1) rfl) (denZ (m := 0) rfl) rfl (by first | omega | (simp only [List.length_append, List.length_cons, List.length_nil, List.length_take, List.length_drop, List.length_replicate, Int.natCast_add] at * <;> omega)) (bt_at rfl (by omega) (by omega))) ?_
  refine hcons (kIdxE (i := 2) (isX rfl) (isZ (m := 2) rfl) (denZ (m := 0) rfl) rfl (by first | omega | (simp only [List.length_append, List.length_cons, List.length_nil, List.length_take, List.length_drop, List.length_replicate, Int.natCast_add] at * <;> omega)) (bt_at rfl (by omega) (by omega))) ?_
  refine hcons (kIdxE (i := 3) (isX rfl) (isZ (m := 3) rfl) (denX rfl) rfl (by first | omega | (simp only [List.length_append, List.length_cons, List.length_nil, List.length_take, List.length_drop, List.length_replicate, Int.natCast_add] at * <;> omega)) (bt_at rfl (by omega) (by omega))) ?_
  refine hcons (kConvF (isX rfl) tu3 (denX rfl) (fI64 (by omega) (by omega))) ?_
  refine hcons (kOrM 7 128 rfl (isZ (m := 0) rfl) (isX rfl) (denX rfl) (by omega) (by omega) (fI64 (by omega) (by omega)) (fI64 (by omega) (by omega)) (by omega) (by omega) (by omega) (fI64 (by omega) (by omega))) ?_
  refine hcons (kCut (isX rfl) (.inr ⟨_, _, rfl, (isZ (m := 4) rfl)⟩) (.inl ⟨rfl, rfl⟩) (p := [u8 128, u8 0, u8 0, u8 (m % 100)]) (m := ((List.replicate (Int.toNat (n % 100)) 0) ++ (List.replicate (Int.toNat ((m % 100) - 1)) 0))) (q := ([] : List UInt8)) (by first | rfl | (simp only [List.append_assoc, List.cons_append, List.nil_append, List.append_nil]; done)) (by first | omega | (simp only [List.length_append, List.length_cons, List.length_nil, List.length_take, List.length_drop, List.length_replicate, Int.natCast_add] at * <;> omega)) (by first | omega | (simp only [List.length_append, List.length_cons, List.length_nil, List.length_take, List.length_drop, List.length_replicate, Int.natCast_add] at * <;> omega)) (denX rfl)) ?_
  refine hcons (kLenE (isX rfl) (denX rfl) (by first | omega | (simp only [List.length_append, List.length_cons, List.length_nil, List.length_take, List.length_drop, List.length_replicate, Int.natCast_add] at * <;> omega))) ?_
  refine hcons (kLt (isX rfl) (isX rfl) (decide_eq_false (by omega))) ?_
  refine hcons (kSub (isX rfl) (isX rfl) (denX rfl) (by omega) (fI64 (by omega) (by omega))) ?_
  refine hcons (kLt (isX rfl) (isX rfl) (decide_eq_true (by omega))) ?_
  refine hcons (kEqS (isX rfl) (isX rfl) (decide_eq_true rfl)) ?_
  refine hcons (kEqS (isX rfl) (isX rfl) (decide_eq_true rfl)) ?_
  exact hnil
theorem path0 (n : Int) (m : Int) (b0 : 0 ≤ n) (b1 : n ≤ 255) (b2 : 0 ≤ m) (b3 : m ≤ 255) (h7 : (n % 100) + 8 ≤ (m % 100) + (n % 100) + 7) (w : World) (hl : laidE w) : Calls Tryd.prog 3 #[.int .u8 n, .int .u8 m] w fun e w' => e = .returned (.bool true) ∧ Go.AX.Below w.heap.size w w' := by
  obtain ⟨fi, hfi, hb⟩ : ∃ fi, tabk.fn.get 3 = some fi ∧ fi.body.isSome = true := ⟨_, rfl, by kernel_rfl⟩
  exact runP (tb := tab0) ((tabkOk (nuL (nu0 n m)) (one0 n m)).hyps (hyOk0 n m b0 b1 b2 b3 h7)) rfl hfi hb (fun e => run0 e ) (args := [.int .u8 n, .int .u8 m]) (by simp only [RelL, Rel]; exact ⟨_, _, rfl, rfl, ⟨_, _, rfl, rfl, rfl⟩⟩) w hl
def hy1 : List (HK × AV) := [(.bin .rem (.x 0) (.i .u8 (.ofNat 100)), .x 2),
  (.zer (.x 2), .x 3),
  (.bin .rem (.x 1) (.i .u8 (.ofNat 100)), .x 4),
  (.zer (.x 4), .x 5),
  (.bytes [.i .u8 (.ofNat 128), .i .u8 (.ofNat 0), .i .u8 (.ofNat 0), .x 2, .i .u8 (.ofNat 128), .i .u8 (.ofNat 0), .i .u8 (.ofNat 0), .x 4], .x 6),
  (.bin .add (.x 6) (.x 3), .x 7),
  (.bin .add (.x 7) (.x 5), .x 8),
  (.bin .neq (.x 8) (.s 0 0), .b true),
  (.bin .eql (.x 8) (.s 0 0), .b false),
  (.idx (.x 8) (.i .i64 (.ofNat 0)), .i .u8 (.ofNat 128)),
  (.len (.x 8), .x 9),
  (.bin .lss (.x 9) (.i .i64 (.ofNat 4)), .b false),
  (.idx (.x 8) (.i .i64 (.ofNat 1)), .i .u8 (.ofNat 0)),
  (.idx (.x 8) (.i .i64 (.ofNat 2)), .i .u8 (.ofNat 0)),
  (.idx (.x 8) (.i .i64 (.ofNat 3)), .x 10),
  (.conv 3 (.x 10), .x 11),
  (.bin .or (.i .i64 (.ofNat 0)) (.x 11), .x 12),
  (.sub (.x 8) (some (.i .i64 (.ofNat 4))) none, .x 13),
  (.bin .eql (.x 13) (.s 0 0), .b false),
  (.idx (.x 13) (.i .i64 (.ofNat 0)), .i .u8 (.ofNat 128)),
  (.len (.x 13), .x 14),
  (.bin .lss (.x 14) (.i .i64 (.ofNat 4)), .b false),
  (.idx (.x 13) (.i .i64 (.ofNat 1)), .i .u8 (.ofNat 0)),
  (.idx (.x 13) (.i .i64 (.ofNat 2)), .i .u8 (.ofNat 0)),
  (.idx (.x 13) (.i .i64 (.ofNat 3)), .x 15),
  (.conv 3 (.x 15), .x 16),
  (.bin .or (.i .i64 (.ofNat 0)) (.x 16), .x 17),
  (.sub (.x 13) (some (.i .i64 (.ofNat 4))) none, .x 18),
  (.len (.x 18), .x 19),
  (.bin .lss (.x 19) (.x 12), .b false),
  (.bin .sub (.x 19) (.x 12), .x 20),
  (.bin .lss (.x 20) (.x 17), .b false),
  (.sub (.x 18) none (some (.x 12)), .x 21),
  (.bin .add (.x 12) (.x 17), .x 22),
  (.sub (.x 18) (some (.x 12)) (some (.x 22)), .x 23),
  (.sub (.x 18) (some (.x 22)) none, .x 24),
  (.bin .neq (.x 24) (.s 0 0), .b false),
  (.bin .sub (.x 9) (.i .i64 (.ofNat 1)), .x 25),
  (.sub (.x 8) none (some (.x 25)), .x 26),
  (.bin .neq (.x 26) (.s 0 0), .b true),
  (.bin .eql (.x 26) (.s 0 0), .b false),
  (.idx (.x 26) (.i .i64 (.ofNat 0)), .i .u8 (.ofNat 128)),
  (.len (.x 26), .x 27),
  (.bin .lss (.x 27) (.i .i64 (.ofNat 4)), .b false),
  (.idx (.x 26) (.i .i64 (.ofNat 1)), .i .u8 (.ofNat 0)),
  (.idx (.x 26) (.i .i64 (.ofNat 2)), .i .u8 (.ofNat 0)),
  (.idx (.x 26) (.i .i64 (.ofNat 3)), .x 28),
  (.conv 3 (.x 28), .x 29),
  (.bin .or (.i .i64 (.ofNat 0)) (.x 29), .x 30),
  (.sub (.x 26) (some (.i .i64 (.ofNat 4))) none, .x 31),
  (.bin .eql (.x 31) (.s 0 0), .b false),
  (.idx (.x 31) (.i .i64 (.ofNat 0)), .i .u8 (.ofNat 128)),
  (.len (.x 31), .x 32),
  (.bin .lss (.x 32) (.i .i64 (.ofNat 4)), .b false),
  (.idx (.x 31) (.i .i64 (.ofNat 1)), .i .u8 (.ofNat 0)),
  (.idx (.x 31) (.i .i64 (.ofNat 2)), .i .u8 (.ofNat 0)),
  (.idx (.x 31) (.i .i64 (.ofNat 3)), .x 33),
  (.conv 3 (.x 33), .x 34),
  (.bin .or (.i .i64 (.ofNat 0)) (.x 34), .x 35),
  (.sub (.x 31) (some (.i .i64 (.ofNat 4))) none, .x 36),
  (.len (.x 36), .x 37),
  (.bin .lss (.x 37) (.x 30), .b true),
  (.bin .eql (.x 21) (.x 3), .b true),
  (.bin .eql (.x 23) (.x 5), .b true)]
noncomputable def tab1 : Tab := { tabk with hyp := hy1 }
theorem run1 (e : Nat) : okB (call tab1 9000 3 [.x 0, .x 1] ⟨H0 e , 7, 0, 0⟩) = true := by kernel_rfl
def nu1 (n : Int) (m : Int) : List Value := [.int .u8 (n),
  .int .u8 (m),
  .int .u8 (n % 100),
  St' ((List.replicate (Int.toNat (n % 100)) 0)),
  .int .u8 (m % 100),
  St' ((List.replicate (Int.toNat (m % 100)) 0)),
  St' ([u8 128, u8 0, u8 0, u8 (n % 100), u8 128, u8 0, u8 0, u8 (m % 100)]),
  St' (([u8 128, u8 0, u8 0, u8 (n % 100), u8 128, u8 0, u8 0, u8 (m % 100)] ++ (List.replicate (Int.toNat (n % 100)) 0))),
  St' (([u8 128, u8 0, u8 0, u8 (n % 100), u8 128, u8 0, u8 0, u8 (m % 100)] ++ ((List.replicate (Int.toNat (n % 100)) 0) ++ (List.replicate (Int.toNat (m % 100)) 0)))),
  .int .i64 ((m % 100) + (n % 100) + 8),
  .int .u8 (n % 100),
  .int .i64 ((n % 100)),
  .int .i64 ((n % 100)),
  St' (([u8 128, u8 0, u8 0, u8 (m % 100)] ++ ((List.replicate (Int.toNat (n % 100)) 0) ++ (List.replicate (Int.toNat (m % 100)) 0)))),
  .int .i64 ((m % 100) + (n % 100) + 4),
  .int .u8 (m % 100),
  .int .i64 ((m % 100)),
  .int .i64 ((m % 100)),
  St' (((List.replicate (Int.toNat (n % 100)) 0) ++ (List.replicate (Int.toNat (m % 100)) 0))),
  .int .i64 ((m % 100) + (n % 100)),
  .int .i64 ((m % 100)),
  St' ((List.replicate (Int.toNat (n % 100)) 0)),
  .int .i64 ((m % 100) + (n % 100)),
  St' ((List.replicate (Int.toNat (m % 100)) 0)),
  St' (([] : List UInt8)),
  .int .i64 ((m % 100) + (n % 100) + 7),
  St' (([u8 128, u8 0, u8 0, u8 (n % 100), u8 128, u8 0, u8 0, u8 (m % 100)] ++ (List.replicate (Int.toNat ((m % 100) + (n % 100) - 1)) 0))),
  .int .i64 ((m % 100) + (n % 100) + 7),
  .int .u8 (n % 100),
  .int .i64 ((n % 100)),
  .int .i64 ((n % 100)),
  St' (([u8 128, u8 0, u8 0, u8 (m % 100)] ++ (List.replicate (Int.toNat ((m % 100) + (n % 100) - 1)) 0))),
  .int .i64 ((m % 100) + (n % 100) + 3),
  .int .u8 (m % 100),
  .int .i64 ((m % 100)),
  .int .i64 ((m % 100)),
  St' ((List.replicate (Int.toNat ((m % 100) + (n % 100) - 1)) 0)),
  .int .i64 ((m % 100) + (n % 100) - 1)]
theorem one1 (n : Int) (m : Int) : ∀ j, (nuL (nu1 n m) j).oneCell' = true := nuL_one (l := nu1 n m) rfl
set_option maxHeartbeats 2000000 in
theorem hyOk1 (n : Int) (m : Int) (b0 : 0 ≤ n) (b1 : n ≤ 255) (b2 : 0 ≤ m) (b3 : m ≤ 255) (h7 : ¬ ((n % 100) + 8 ≤ (m % 100) + (n % 100) + 7)) (h8 : 8 ≤ (m % 100) + (n % 100) + 7) : ∀ k r, (k, r) ∈ hy1 → HOk (cx (nuL (nu1 n m)) (one1 n m) 1 laidE laidE_stab) k r := by
  unfold hy1
  refine hcons (kRem (isX rfl) (isZ (m := 100) rfl) (denX rfl) (by omega) (by omega) rfl) ?_
  refine hcons (kZer (isX rfl) (by omega) (by omega) (denX rfl)) ?_
  refine hcons (kRem (isX rfl) (isZ (m := 100) rfl) (denX rfl) (by omega) (by omega) rfl) ?_
  refine hcons (kZer (isX rfl) (by omega) (by omega) (denX rfl)) ?_
  refine hcons (kBytesB (bs := [u8 128, u8 0, u8 0, u8 (n % 100), u8 128, u8 0, u8 0, u8 (m % 100)]) (.cons (isB8 (isZ (m := 128) rfl) (by omega) (by omega)) (.cons (isB8 (isZ (m := 0) rfl) (by omega) (by omega)) (.cons (isB8 (isZ (m := 0) rfl) (by omega) (by omega)) (.cons (isB8 (isX rfl) (by omega) (by omega)) (.cons (isB8 (isZ (m := 128) rfl) (by omega) (by omega)) (.cons (isB8 (isZ (m := 0) rfl) (by omega) (by omega)) (.cons (isB8 (isZ (m := 0) rfl) (by omega) (by omega)) (.cons (isB8 (isX rfl) (by omega) (by omega)) .nil)))))))) (denX rfl)) ?_
  refine hcons (kCat (isX rfl) (isX rfl) (denX rfl) (by first | rfl | (simp only [List.append_assoc, List.cons_append, List.nil_append, List.append_nil]; done)) (by first | omega | (simp only [List.length_append, List.length_cons, List.length_nil, List.length_take, List.length_drop, List.length_replicate, Int.natCast_add] at * <;> omega))) ?_
  refine hcons (kCat (isX rfl) (isX rfl) (denX rfl) (by first | rfl | (simp only [List.append_assoc, List.cons_append, List.nil_append, List.append_nil]; done)) (by first | omega | (simp only [List.length_append, List.length_cons, List.length_nil, List.length_take, List.length_drop, List.length_replicate, Int.natCast_add] at * <;> omega))) ?_
  refine hcons (kNeS (isX rfl) (isSx (l := ([] : List UInt8)) 0 0 rfl) (bnT (by first | exact nilT (by first | omega | (simp only [List.length_append, List.length_cons, List.length_nil, List.length_take, List.length_drop, List.length_replicate, Int.natCast_add] at * <;> omega)) | exact nilF (by first | omega | (simp only [List.length_append, List.length_cons, List.length_nil, List.length_take, List.length_drop, List.length_replicate, Int.natCast_add] at * <;> omega)) | exact nilT' (by first | omega | (simp only [List.length_append, List.length_cons, List.length_nil, List.length_take, List.length_drop, List.length_replicate, Int.natCast_add] at * <;> omega)) | exact nilF' (by first | omega | (simp only [List.length_append, List.length_cons, List.length_nil, List.length_take, List.length_drop, List.length_replicate, Int.natCast_add] at * <;> omega))))) ?_
  refine hcons (kEqS (isX rfl) (isSx (l := ([] : List UInt8)) 0 0 rfl) (by first | exact nilT (by first | omega | (simp only [List.length_append, List.length_cons, List.length_nil, List.length_take, List.length_drop, List.length_replicate, Int.natCast_add] at * <;> omega)) | exact nilF (by first | omega | (simp only [List.length_append, List.length_cons, List.length_nil, List.length_take, List.length_drop, List.length_replicate, Int.natCast_add] at * <;> omega)) | exact nilT' (by first | omega | (simp only [List.length_append, List.length_cons, List.length_nil, List.length_take, List.length_drop, List.length_replicate, Int.natCast_add] at * <;> omega)) | exact nilF' (by first | omega | (simp only [List.length_append, List.length_cons, List.length_nil, List.length_take, List.length_drop, List.length_replicate, Int.natCast_add] at * <;> omega)))) ?_
  refine hcons (kIdxE (i := 0) (isX rfl) (isZ (m := 0) rfl) (denZ (m := 128) rfl) rfl (by first | omega | (simp only [List.length_append, List.length_cons, List.length_nil, List.length_take, List.length_drop, List.length_replicate, Int.natCast_add] at * <;> omega)) (bt_at rfl (by omega) (by omega))) ?_
  refine hcons (kLenE (isX rfl) (denX rfl) (by first | omega | (simp only [List.length_append, List.length_cons, List.length_nil, List.length_take, List.length_drop, List.length_replicate, Int.natCast_add] at * <;> omega))) ?_
  refine hcons (kLt (isX rfl) (isZ (m := 4) rfl) (decide_eq_false (by omega))) ?_
  refine hcons (kIdxE (i := 1) (isX rfl) (isZ (m := 1) rfl) (denZ (m := 0) rfl) rfl (by first | omega | (simp only [List.length_append, List.length_cons, List.length_nil, List.length_take, List.length_drop, List.length_replicate, Int.natCast_add] at * <;> omega)) (bt_at rfl (by omega) (by omega))) ?_
  refine hcons (kIdxE (i := 2) (isX rfl) (isZ (m := 2) rfl) (denZ (m := 0) rfl) rfl (by first | omega | (simp only [List.length_append, List.length_cons, List.length_nil, List.length_take, List.length_drop, List.length_replicate, Int.natCast_add] at * <;> omega)) (bt_at rfl (by omega) (by omega))) ?_
  refine hcons (kIdxE (i := 3) (isX rfl) (isZ (m := 3) rfl) (denX rfl) rfl (by first | omega | (simp only [List.length_append, List.length_cons, List.length_nil, List.length_take, List.length_drop, List.length_replicate, Int.natCast_add] at * <;> omega)) (bt_at rfl (by omega) (by omega))) ?_
  refine hcons (kConvF (isX rfl) tu3 (denX rfl) (fI64 (by omega) (by omega))) ?_
  refine hcons (kOrM 7 128 rfl (isZ (m := 0) rfl) (isX rfl) (denX rfl) (by omega) (by omega) (fI64 (by omega) (by omega)) (fI64 (by omega) (by omega)) (by omega) (by omega) (by omega) (fI64 (by omega) (by omega))) ?_
  refine hcons (kCut (isX rfl) (.inr ⟨_, _, rfl, (isZ (m := 4) rfl)⟩) (.inl ⟨rfl, rfl⟩) (p := [u8 128, u8 0, u8 0, u8 (n % 100)]) (m := ([u8 128, u8 0, u8 0, u8 (m % 100)] ++ ((List.replicate (Int.toNat (n % 100)) 0) ++ (List.replicate (Int.toNat (m % 100)) 0)))) (q := ([] : List UInt8)) (by first | rfl | (simp only [List.append_assoc, List.cons_append, List.nil_append, List.append_nil]; done)) (by first | omega | (simp only [List.length_append, List.length_cons, List.length_nil, List.length_take, List.length_drop, List.length_replicate, Int.natCast_add] at * <;> omega)) (by first | omega | (simp only [List.length_append, List.length_cons, List.length_nil, List.length_take, List.length_drop, List.length_replicate, Int.natCast_add] at * <;> omega)) (denX rfl)) ?_
  refine hcons (kEqS (isX rfl) (isSx (l := ([] : List UInt8)) 0 0 rfl) (by first | exact nilT (by first | omega | (simp only [List.length_append, List.length_cons, List.length_nil, List.length_take, List.length_drop, List.length_replicate, Int.natCast_add] at * <;> omega)) | exact nilF (by first | omega | (simp only [List.length_append, List.length_cons, List.length_nil, List.length_take, List.length_drop, List.length_replicate, Int.natCast_add] at * <;> omega)) | exact nilT' (by first | omega | (simp only [List.length_append, List.length_cons, List.length_nil, List.length_take, List.length_drop, List.length_replicate, Int.natCast_add] at * <;> omega)) | exact nilF' (by first | omega | (simp only [List.length_append, List.length_cons, List.length_nil, List.length_take, List.length_drop, List.length_replicate, Int.natCast_add] at * <;> omega)))) ?_
  refine hcons (kIdxE (i := 0) (isX rfl) (isZ (m := 0) rfl) (denZ (m := 128) rfl) rfl (by first | omega | (simp only [List.length_append, List.length_cons, List.length_nil, List.length_take, List.length_drop, List.length_replicate, Int.natCast_add] at * <;> omega)) (bt_at rfl (by omega) (by omega))) ?_
  refine hcons (kLenE (isX rfl) (denX rfl) (by first | omega | (simp only [List.length_append, List.length_cons, List.length_nil, List.length_take, List.length_drop, List.length_replicate, Int.natCast_add] at * <;> omega))) ?_
  refine hcons (kLt (isX rfl) (isZ (m := 4) rfl) (decide_eq_false (by omega))) ?_
  refine hcons (kIdxE (i := 1) (isX rfl) (isZ (m := 1) rfl) (denZ (m := 0) rfl) rfl (by first | omega | (simp only [List.length_append, List.length_cons, List.length_nil, List.length_take, List.length_drop, List.length_replicate, Int.natCast_add] at * <;> omega)) (bt_at rfl (by omega) (by omega))) ?_
  refine hcons (kIdxE (i := 2) (isX rfl) (isZ (m := 2) rfl) (denZ (m := 0) rfl) rfl (by first | omega | (simp only [List.length_append, List.length_cons, List.length_nil, List.length_take, List.length_drop, List.length_replicate, Int.natCast_add] at * <;> omega)) (bt_at rfl (by omega) (by omega))) ?_
  refine hcons (kIdxE (i := 3) (isX rfl) (isZ (m := 3) rfl) (denX rfl) rfl (by first | omega | (simp only [List.length_append, List.length_cons, List.length_nil, List.length_take, List.length_drop, List.length_replicate, Int.natCast_add] at * <;> omega)) (bt_at rfl (by omega) (by omega))) ?_
  refine hcons (kConvF (isX rfl) tu3 (denX rfl) (fI64 (by omega) (by omega))) ?_
  refine hcons (kOrM 7 128 rfl (isZ (m := 0) rfl) (isX rfl) (denX rfl) (by omega) (by omega) (fI64 (by omega) (by omega)) (fI64 (by omega) (by omega)) (by omega) (by omega) (by omega) (fI64 (by omega) (by omega))) ?_
  refine hcons (kCut (isX rfl) (.inr ⟨_, _, rfl, (isZ (m := 4) rfl)⟩) (.inl ⟨rfl, rfl⟩) (p := [u8 128, u8 0, u8 0, u8 (m % 100)]) (m := ((List.replicate (Int.toNat (n % 100)) 0) ++ (List.replicate (Int.toNat (m % 100)) 0))) (q := ([] : List UInt8)) (by first | rfl | (simp only [List.append_assoc, List.cons_append, List.nil_append, List.append_nil]; done)) (by first | omega | (simp only [List.length_append, List.length_cons, List.length_nil, List.length_take, List.length_drop, List.length_replicate, Int.natCast_add] at * <;> omega)) (by first | omega | (simp only [List.length_append, List.length_cons, List.length_nil, List.length_take, List.length_drop, List.length_replicate, Int.natCast_add] at * <;> omega)) (denX rfl)) ?_
  refine hcons (kLenE (isX rfl) (denX rfl) (by first | omega | (simp only [List.length_append, List.length_cons, List.length_nil, List.length_take, List.length_drop, List.length_replicate, Int.natCast_add] at * <;> omega))) ?_
  refine hcons (kLt (isX rfl) (isX rfl) (decide_eq_false (by omega))) ?_
  refine hcons (kSub (isX rfl) (isX rfl) (denX rfl) (by omega) (fI64 (by omega) (by omega))) ?_
  refine hcons (kLt (isX rfl) (isX rfl) (decide_eq_false (by omega))) ?_
  refine hcons (kCut (isX rfl) (.inl ⟨rfl, rfl⟩) (.inr ⟨_, _, rfl, (isX rfl)⟩) (p := ([] : List UInt8)) (m := (List.replicate (Int.toNat (n % 100)) 0)) (q := (List.replicate (Int.toNat (m % 100)) 0)) (by first | rfl | (simp only [List.append_assoc, List.cons_append, List.nil_append, List.append_nil]; done)) (by first | omega | (simp only [List.length_append, List.length_cons, List.length_nil, List.length_take, List.length_drop, List.length_replicate, Int.natCast_add] at * <;> omega)) (by first | omega | (simp only [List.length_append, List.length_cons, List.length_nil, List.length_take, List.length_drop, List.length_replicate, Int.natCast_add] at * <;> omega)) (denX rfl)) ?_
  refine hcons (kAdd (isX rfl) (isX rfl) (denX rfl) (by omega) (fI64 (by omega) (by omega))) ?_
  refine hcons (kCut (isX rfl) (.inr ⟨_, _, rfl, (isX rfl)⟩) (.inr ⟨_, _, rfl, (isX rfl)⟩) (p := (List.replicate (Int.toNat (n % 100)) 0)) (m := (List.replicate (Int.toNat (m % 100)) 0)) (q := ([] : List UInt8)) (by first | rfl | (simp only [List.append_assoc, List.cons_append, List.nil_append, List.append_nil]; done)) (by first | omega | (simp only [List.length_append, List.length_cons, List.length_nil, List.length_take, List.length_drop, List.length_replicate, Int.natCast_add] at * <;> omega)) (by first | omega | (simp only [List.length_append, List.length_cons, List.length_nil, List.length_take, List.length_drop, List.length_replicate, Int.natCast_add] at * <;> omega)) (denX rfl)) ?_
  refine hcons (kCut (isX rfl) (.inr ⟨_, _, rfl, (isX rfl)⟩) (.inl ⟨rfl, rfl⟩) (p := ((List.replicate (Int.toNat (n % 100)) 0) ++ (List.replicate (Int.toNat (m % 100)) 0))) (m := ([] : List UInt8)) (q := ([] : List UInt8)) (by first | rfl | (simp only [List.append_assoc, List.cons_append, List.nil_append, List.append_nil]; done)) (by first | omega | (simp only [List.length_append, List.length_cons, List.length_nil, List.length_take, List.length_drop, List.length_replicate, Int.natCast_add] at * <;> omega)) (by first | omega | (simp only [List.length_append, List.length_cons, List.length_nil, List.length_take, List.length_drop, List.length_replicate, Int.natCast_add] at * <;> omega)) (denX rfl)) ?_
  refine hcons (kNeS (isX rfl) (isSx (l := ([] : List UInt8)) 0 0 rfl) (bnF (decide_eq_true rfl))) ?_
  refine hcons (kSub (isX rfl) (isZ (m := 1) rfl) (denX rfl) (by omega) (fI64 (by omega) (by omega))) ?_
  refine hcons (kCut (isX rfl) (.inl ⟨rfl, rfl⟩) (.inr ⟨_, _, rfl, (isX rfl)⟩) (p := []) (m := ([u8 128, u8 0, u8 0, u8 (n % 100), u8 128, u8 0, u8 0, u8 (m % 100)] ++ (List.replicate (Int.toNat ((m % 100) + (n % 100) - 1)) 0))) (q := ((List.replicate (Int.toNat (1 - (m % 100))) 0) ++ (List.replicate (Int.toNat (m % 100)) 0))) (by rw [repSplit (E := n % 100) (a := (m % 100) + (n % 100) - 1) (b := 1 - (m % 100)) (by omega) (by omega) (by omega)]; first | rfl | (simp only [List.append_assoc, List.cons_append, List.nil_append, List.append_nil]; done)) (by first | omega | (simp only [List.length_append, List.length_cons, List.length_nil, List.length_take, List.length_drop, List.length_replicate, Int.natCast_add] at * <;> omega)) (by first | omega | (simp only [List.length_append, List.length_cons, List.length_nil, List.length_take, List.length_drop, List.length_replicate, Int.natCast_add] at * <;> omega)) (denX rfl)) ?_
  refine hcons (kNeS (isX rfl) (isSx (l := ([] : List UInt8)) 0 0 rfl) (bnT (by first | exact nilT (by first | omega | (simp only [List.length_append, List.length_cons, List.length_nil, List.length_take, List.length_drop, List.length_replicate, Int.natCast_add] at * <;> omega)) | exact nilF (by first | omega | (simp only [List.length_append, List.length_cons, List.length_nil, List.length_take, List.length_drop, List.length_replicate, Int.natCast_add] at * <;> omega)) | exact nilT' (by first | omega | (simp only [List.length_append, List.length_cons, List.length_nil, List.length_take, List.length_drop, List.length_replicate, Int.natCast_add] at * <;> omega)) | exact nilF' (by first | omega | (simp only [List.length_append, List.length_cons, List.length_nil, List.length_take, List.length_drop, List.length_replicate, Int.natCast_add] at * <;> omega))))) ?_
  refine hcons (kEqS (isX rfl) (isSx (l := ([] : List UInt8)) 0 0 rfl) (by first | exact nilT (by first | omega | (simp only [List.length_append, List.length_cons, List.length_nil, List.length_take, List.length_drop, List.length_replicate, Int.natCast_add] at * <;> omega)) | exact nilF (by first | omega | (simp only [List.length_append, List.length_cons, List.length_nil, List.length_take, List.length_drop, List.length_replicate, Int.natCast_add] at * <;> omega)) | exact nilT' (by first | omega | (simp only [List.length_append, List.length_cons, List.length_nil, List.length_take, List.length_drop, List.length_replicate, Int.natCast_add] at * <;> omega)) | exact nilF' (by first | omega | (simp only [List.length_append, List.length_cons, List.length_nil, List.length_take, List.length_drop, List.length_replicate, Int.natCast_add] at * <;> omega)))) ?_
  refine hcons (kIdxE (i := 0) (isX rfl) (isZ (m := 0) rfl) (denZ (m := 128) rfl) rfl (by first | omega | (simp only [List.length_append, List.length_cons, List.length_nil, List.length_take, List.length_drop, List.length_replicate, Int.natCast_add] at * <;> omega)) (bt_at rfl (by omega) (by omega))) ?_
  refine hcons (kLenE (isX rfl) (denX rfl) (by first | omega | (simp only [List.length_append, List.length_cons, List.length_nil, List.length_take, List.length_drop, List.length_replicate, Int.natCast_add] at * <;> omega))) ?_
  refine hcons (kLt (isX rfl) (isZ (m := 4) rfl) (decide_eq_false (by omega))) ?_
  refine hcons (kIdxE (i := 1) (isX rfl) (isZ (m := 1) rfl) (denZ (m := 0) rfl) rfl (by first | omega | (simp only [List.length_append, List.length_cons, List.length_nil, List.length_take, List.length_drop, List.length_replicate, Int.natCast_add] at * <;> omega)) (bt_at rfl (by omega) (by omega))) ?_
  refine hcons (kIdxE (i := 2) (isX rfl) (isZ (m := 2) rfl) (denZ (m := 0) rfl) rfl (by first | omega | (simp only [List.length_append, List.length_cons, List.length_nil, List.length_take, List.length_drop, List.length_replicate, Int.natCast_add] at * <;> omega)) (bt_at rfl (by omega) (by omega))) ?_
  refine hcons (kIdxE (i := 3) (isX rfl) (isZ (m := 3) rfl) (denX rfl) rfl (by first | omega | (simp only [List.length_append, List.length_cons, List.length_nil, List.length_take, List.length_drop, List.length_replicate, Int.natCast_add] at * <;> omega)) (bt_at rfl (by omega) (by omega))) ?_
  refine hcons (kConvF (isX rfl) tu3 (denX rfl) (fI64 (by omega) (by omega))) ?_
  refine hcons (kOrM 7 128 rfl (isZ (m := 0) rfl) (isX rfl) (denX rfl) (by omega) (by omega) (fI64 (by omega) (by omega)) (fI64 (by omega) (by omega)) (by omega) (by omega) (by omega) (fI64 (by omega) (by omega))) ?_
  refine hcons (kCut (isX rfl) (.inr ⟨_, _, rfl, (isZ (m := 4) rfl)⟩) (.inl ⟨rfl, rfl⟩) (p := [u8 128, u8 0, u8 0, u8 (n % 100)]) (m := ([u8 128, u8 0, u8 0, u8 (m % 100)] ++ (List.replicate (Int.toNat ((m % 100) + (n % 100) - 1)) 0))) (q := ([] : List UInt8)) (by first | rfl | (simp only [List.append_assoc, List.cons_append, List.nil_append, List.append_nil]; done)) (by first | omega | (simp only [List.length_append, List.length_cons, List.length_nil, List.length_take, List.length_drop, List.length_replicate, Int.natCast_add] at * <;> omega)) (by first | omega | (simp only [List.length_append, List.length_cons, List.length_nil, List.length_take, List.length_drop, List.length_replicate, Int.natCast_add] at * <;> omega)) (denX rfl)) ?_
  refine hcons (kEqS (isX rfl) (isSx (l := ([] : List UInt8)) 0 0 rfl) (by first | exact nilT (by first | omega | (simp only [List.length_append, List.length_cons, List.length_nil, List.length_take, List.length_drop, List.length_replicate, Int.natCast_add] at * <;> omega)) | exact nilF (by first | omega | (simp only [List.length_append, List.length_cons, List.length_nil, List.length_take, List.length_drop, List.length_replicate, Int.natCast_add] at * <;> omega)) | exact nilT' (by first | omega | (simp only [List.length_append, List.length_cons, List.length_nil, List.length_take, List.length_drop, List.length_replicate, Int.natCast_add] at * <;> omega)) | exact nilF' (by first | omega | (simp only [List.length_append, List.length_cons, List.length_nil, List.length_take, List.length_drop, List.length_replicate, Int.natCast_add] at * <;> omega)))) ?_
  refine hcons (kIdxE (i := 0) (isX rfl) (isZ (m := 0) rfl) (denZ (m := 128) rfl) rfl (by first | omega | (simp only [List.length_append, List.length_cons, List.length_nil, List.length_take, List.length_drop, List.length_replicate, Int.natCast_add] at * <;> omega)) (bt_at rfl (by omega) (by omega))) ?_
  refine hcons (kLenE (isX rfl) (denX rfl) (by first | omega | (simp only [List.length_append, List.length_cons, List.length_nil, List.length_take, List.length_drop, List.length_replicate, Int.natCast_add] at * <;> omega))) ?_
  refine hcons (kLt (isX rfl) (isZ (m := 4) rfl) (decide_eq_false (by omega))) ?_
  refine hcons (kIdxE (i := 1) (isX rfl) (isZ (m := 1) rfl) (denZ (m := 0) rfl) rfl (by first | omega | (simp only [List.length_append, List.length_cons, List.length_nil, List.length_take, List.length_drop, List.length_replicate, Int.natCast_add] at * <;> omega)) (bt_at rfl (by omega) (by omega))) ?_
  refine hcons (kIdxE (i := 2) (isX rfl) (isZ (m := 2) rfl) (denZ (m := 0) rfl) rfl (by first | omega | (simp only [List.length_append, List.length_cons, List.length_nil, List.length_take, List.length_drop, List.length_replicate, Int.natCast_add] at * <;> omega)) (bt_at rfl (by omega) (by omega))) ?_
  refine hcons (kIdxE (i := 3) (isX rfl) (isZ (m := 3) rfl) (denX rfl) rfl (by first | omega | (simp only [List.length_append, List.length_cons, List.length_nil, List.length_take, List.length_drop, List.length_replicate, Int.natCast_add] at * <;> omega)) (bt_at rfl (by omega) (by omega))) ?_
  refine hcons (kConvF (isX rfl) tu3 (denX rfl) (fI64 (by omega) (by omega))) ?_
  refine hcons (kOrM 7 128 rfl (isZ (m := 0) rfl) (isX rfl) (denX rfl) (by omega) (by omega) (fI64 (by omega) (by omega)) (fI64 (by omega) (by omega)) (by omega) (by omega) (by omega) (fI64 (by omega) (by omega))) ?_
  refine hcons (kCut (isX rfl) (.inr ⟨_, _, rfl, (isZ (m := 4) rfl)⟩) (.inl ⟨rfl, rfl⟩) (p := [u8 128, u8 0, u8 0, u8 (m % 100)]) (m := (List.replicate (Int.toNat ((m % 100) + (n % 100) - 1)) 0)) (q := ([] : List UInt8)) (by first | rfl | (simp only [List.append_assoc, List.cons_append, List.nil_append, List.append_nil]; done)) (by first | omega | (simp only [List.length_append, List.length_cons, List.length_nil, List.length_take, List.length_drop, List.length_replicate, Int.natCast_add] at * <;> omega)) (by first | omega | (simp only [List.length_append, List.length_cons, List.length_nil, List.length_take, List.length_drop, List.length_replicate, Int.natCast_add] at * <;> omega)) (denX rfl)) ?_
  refine hcons (kLenE (isX rfl) (denX rfl) (by first | omega | (simp only [List.length_append, List.length_cons, List.length_nil, List.length_take, List.length_drop, List.length_replicate, Int.natCast_add] at * <;> omega))) ?_
  refine hcons (kLt (isX rfl) (isX rfl) (decide_eq_true (by omega))) ?_
  refine hcons (kEqS (isX rfl) (isX rfl) (decide_eq_true rfl)) ?_
  refine hcons (kEqS (isX rfl) (isX rfl) (decide_eq_true rfl)) ?_
  exact hnil
theorem path1 (n : Int) (m : Int) (b0 : 0 ≤ n) (b1 : n ≤ 255) (b2 : 0 ≤ m) (b3 : m ≤ 255) (h7 : ¬ ((n % 100) + 8 ≤ (m % 100) + (n % 100) + 7)) (h8 : 8 ≤ (m % 100) + (n % 100) + 7) (w : World) (hl : laidE w) : Calls Tryd.prog 3 #[.int .u8 n, .int .u8 m] w fun e w' => e = .returned (.bool true) ∧ Go.AX.Below w.heap.size w w' := by
  obtain ⟨fi, hfi, hb⟩ : ∃ fi, tabk.fn.get 3 = some fi ∧ fi.body.isSome = true := ⟨_, rfl, by kernel_rfl⟩
  exact runP (tb := tab1) ((tabkOk (nuL (nu1 n m)) (one1 n m)).hyps (hyOk1 n m b0 b1 b2 b3 h7 h8)) rfl hfi hb (fun e => run1 e ) (args := [.int .u8 n, .int .u8 m]) (by simp only [RelL, Rel]; exact ⟨_, _, rfl, rfl, ⟨_, _, rfl, rfl, rfl⟩⟩) w hl
def hy2 : List (HK × AV) := [(.bin .rem (.x 0) (.i .u8 (.ofNat 100)), .x 2),
  (.zer (.x 2), .x 3),
  (.bin .rem (.x 1) (.i .u8 (.ofNat 100)), .x 4),
  (.zer (.x 4), .x 5),
  (.bytes [.i .u8 (.ofNat 128), .i .u8 (.ofNat 0), .i .u8 (.ofNat 0), .x 2, .i .u8 (.ofNat 128), .i .u8 (.ofNat 0), .i .u8 (.ofNat 0), .x 4], .x 6),
  (.bin .add (.x 6) (.x 3), .x 7),
  (.bin .add (.x 7) (.x 5), .x 8),
  (.bin .neq (.x 8) (.s 0 0), .b true),
  (.bin .eql (.x 8) (.s 0 0), .b false),
  (.idx (.x 8) (.i .i64 (.ofNat 0)), .i .u8 (.ofNat 128)),
  (.len (.x 8), .x 9),
  (.bin .lss (.x 9) (.i .i64 (.ofNat 4)), .b false),
  (.idx (.x 8) (.i .i64 (.ofNat 1)), .i .u8 (.ofNat 0)),
  (.idx (.x 8) (.i .i64 (.ofNat 2)), .i .u8 (.ofNat 0)),
  (.idx (.x 8) (.i .i64 (.ofNat 3)), .x 10),
  (.conv 3 (.x 10), .x 11),
  (.bin .or (.i .i64 (.ofNat 0)) (.x 11), .x 12),
  (.sub (.x 8) (some (.i .i64 (.ofNat 4))) none, .x 13),
  (.bin .eql (.x 13) (.s 0 0), .b false),
  (.idx (.x 13) (.i .i64 (.ofNat 0)), .i .u8 (.ofNat 128)),
  (.len (.x 13), .x 14),
  (.bin .lss (.x 14) (.i .i64 (.ofNat 4)), .b false),
  (.idx (.x 13) (.i .i64 (.ofNat 1)), .i .u8 (.ofNat 0)),
  (.idx (.x 13) (.i .i64 (.ofNat 2)), .i .u8 (.ofNat 0)),
  (.idx (.x 13) (.i .i64 (.ofNat 3)), .x 15),
  (.conv 3 (.x 15), .x 16),
  (.bin .or (.i .i64 (.ofNat 0)) (.x 16), .x 17),
  (.sub (.x 13) (some (.i .i64 (.ofNat 4))) none, .x 18),
  (.len (.x 18), .x 19),
  (.bin .lss (.x 19) (.x 12), .b false),
  (.bin .sub (.x 19) (.x 12), .x 20),
  (.bin .lss (.x 20) (.x 17), .b false),
  (.sub (.x 18) none (some (.x 12)), .x 21),
  (.bin .add (.x 12) (.x 17), .x 22),
  (.sub (.x 18) (some (.x 12)) (some (.x 22)), .x 23),
  (.sub (.x 18) (some (.x 22)) none, .x 24),
  (.bin .neq (.x 24) (.s 0 0), .b false),
  (.bin .sub (.x 9) (.i .i64 (.ofNat 1)), .x 25),
  (.sub (.x 8) none (some (.x 25)), .x 26),
  (.bin .neq (.x 26) (.s 0 0), .b true),
  (.bin .eql (.x 26) (.s 0 0), .b false),
  (.idx (.x 26) (.i .i64 (.ofNat 0)), .i .u8 (.ofNat 128)),
  (.len (.x 26), .i .i64 (.ofNat 7)),
  (.idx (.x 26) (.i .i64 (.ofNat 1)), .i .u8 (.ofNat 0)),
  (.idx (.x 26) (.i .i64 (.ofNat 2)), .i .u8 (.ofNat 0)),
  (.idx (.x 26) (.i .i64 (.ofNat 3)), .x 27),
  (.conv 3 (.x 27), .x 28),
  (.bin .or (.i .i64 (.ofNat 0)) (.x 28), .x 29),
  (.sub (.x 26) (some (.i .i64 (.ofNat 4))) none, .x 30),
  (.bin .eql (.x 30) (.s 0 0), .b false),
  (.idx (.x 30) (.i .i64 (.ofNat 0)), .i .u8 (.ofNat 128)),
  (.len (.x 30), .i .i64 (.ofNat 3)),
  (.bin .eql (.x 21) (.x 3), .b true),
  (.bin .eql (.x 23) (.x 5), .b true)]
noncomputable def tab2 : Tab := { tabk with hyp := hy2 }
theorem run2 (e : Nat) : okB (call tab2 9000 3 [.x 0, .x 1] ⟨H0 e , 7, 0, 0⟩) = true := by kernel_rfl
def nu2 (n : Int) (m : Int) : List Value := [.int .u8 (n),
  .int .u8 (m),
  .int .u8 (n % 100),
  St' ((List.replicate (Int.toNat (n % 100)) 0)),
  .int .u8 (m % 100),
  St' ((List.replicate (Int.toNat (m % 100)) 0)),
  St' ([u8 128, u8 0, u8 0, u8 (n % 100), u8 128, u8 0, u8 0, u8 (m % 100)]),
  St' (([u8 128, u8 0, u8 0, u8 (n % 100), u8 128, u8 0, u8 0, u8 (m % 100)] ++ (List.replicate (Int.toNat (n % 100)) 0))),
  St' (([u8 128, u8 0, u8 0, u8 (n % 100), u8 128, u8 0, u8 0, u8 (m % 100)] ++ ((List.replicate (Int.toNat (n % 100)) 0) ++ (List.replicate (Int.toNat (m % 100)) 0)))),
  .int .i64 ((m % 100) + (n % 100) + 8),
  .int .u8 (n % 100),
  .int .i64 ((n % 100)),
  .int .i64 ((n % 100)),
  St' (([u8 128, u8 0, u8 0, u8 (m % 100)] ++ ((List.replicate (Int.toNat (n % 100)) 0) ++ (List.replicate (Int.toNat (m % 100)) 0)))),
  .int .i64 ((m % 100) + (n % 100) + 4),
  .int .u8 (m % 100),
  .int .i64 ((m % 100)),
  .int .i64 ((m % 100)),
  St' (((List.replicate (Int.toNat (n % 100)) 0) ++ (List.replicate (Int.toNat (m % 100)) 0))),
  .int .i64 ((m % 100) + (n % 100)),
  .int .i64 ((m % 100)),
  St' ((List.replicate (Int.toNat (n % 100)) 0)),
  .int .i64 ((m % 100) + (n % 100)),
  St' ((List.replicate (Int.toNat (m % 100)) 0)),
  St' (([] : List UInt8)),
  .int .i64 ((m % 100) + (n % 100) + 7),
  St' ([u8 128, u8 0, u8 0, u8 (n % 100), u8 128, u8 0, u8 0]),
  .int .u8 (n % 100),
  .int .i64 ((n % 100)),
  .int .i64 ((n % 100)),
  St' ([u8 128, u8 0, u8 0])]
theorem one2 (n : Int) (m : Int) : ∀ j, (nuL (nu2 n m) j).oneCell' = true := nuL_one (l := nu2 n m) rfl
set_option maxHeartbeats 2000000 in
theorem hyOk2 (n : Int) (m : Int) (b0 : 0 ≤ n) (b1 : n ≤ 255) (b2 : 0 ≤ m) (b3 : m ≤ 255) (h7 : ¬ ((n % 100) + 8 ≤ (m % 100) + (n % 100) + 7)) (h8 : ¬ (8 ≤ (m % 100) + (n % 100) + 7)) : ∀ k r, (k, r) ∈ hy2 → HOk (cx (nuL (nu2 n m)) (one2 n m) 1 laidE laidE_stab) k r := by
  unfold hy2
  refine hcons (kRem (isX rfl) (isZ (m := 100) rfl) (denX rfl) (by omega) (by omega) rfl) ?_
  refine hcons (kZer (isX rfl) (by omega) (by omega) (denX rfl)) ?_
  refine hcons (kRem (isX rfl) (isZ (m := 100) rfl) (denX rfl) (by omega) (by omega) rfl) ?_
  refine hcons (kZer (isX rfl) (by omega) (by omega) (denX rfl)) ?_
  refine hcons (kBytesB (bs := [u8 128, u8 0, u8 0, u8 (n % 100), u8 128, u8 0, u8 0, u8 (m % 100)]) (.cons (isB8 (isZ (m := 128) rfl) (by omega) (by omega)) (.cons (isB8 (isZ (m := 0) rfl) (by omega) (by omega)) (.cons (isB8 (isZ (m := 0) rfl) (by omega) (by omega)) (.cons (isB8 (isX rfl) (by omega) (by omega)) (.cons (isB8 (isZ (m := 128) rfl) (by omega) (by omega)) (.cons (isB8 (isZ (m := 0) rfl) (by omega) (by omega)) (.cons (isB8 (isZ (m := 0) rfl) (by omega) (by omega)) (.cons (isB8 (isX rfl) (by omega) (by omega)) .nil)))))))) (denX rfl)) ?_
  refine hcons (kCat (isX rfl) (isX rfl) (denX rfl) (by first | rfl | (simp only [List.append_assoc, List.cons_append, List.nil_append, List.append_nil]; done)) (by first | omega | (simp only [List.length_append, List.length_cons, List.length_nil, List.length_take, List.length_drop, List.length_replicate, Int.natCast_add] at * <;> omega))) ?_
  refine hcons (kCat (isX rfl) (isX rfl) (denX rfl) (by first | rfl | (simp only [List.append_assoc, List.cons_append, List.nil_append, List.append_nil]; done)) (by first | omega | (simp only [List.length_append, List.length_cons, List.length_nil, List.length_take, List.length_drop, List.length_replicate, Int.natCast_add] at * <;> omega))) ?_
  refine hcons (kNeS (isX rfl) (isSx (l := ([] : List UInt8)) 0 0 rfl) (bnT (by first | exact nilT (by first | omega | (simp only [List.length_append, List.length_cons, List.length_nil, List.length_take, List.length_drop, List.length_replicate, Int.natCast_add] at * <;> omega)) | exact nilF (by first | omega | (simp only [List.length_append, List.length_cons, List.length_nil, List.length_take, List.length_drop, List.length_replicate, Int.natCast_add] at * <;> omega)) | exact nilT' (by first | omega | (simp only [List.length_append, List.length_cons, List.length_nil, List.length_take, List.length_drop, List.length_replicate, Int.natCast_add] at * <;> omega)) | exact nilF' (by first | omega | (simp only [List.length_append, List.length_cons, List.length_nil, List.length_take, List.length_drop, List.length_replicate, Int.natCast_add] at * <;> omega))))) ?_
  refine hcons (kEqS (isX rfl) (isSx (l := ([] : List UInt8)) 0 0 rfl) (by first | exact nilT (by first | omega | (simp only [List.length_append, List.length_cons, List.length_nil, List.length_take, List.length_drop, List.length_replicate, Int.natCast_add] at * <;> omega)) | exact nilF (by first | omega | (simp only [List.length_append, List.length_cons, List.length_nil, List.length_take, List.length_drop, List.length_replicate, Int.natCast_add] at * <;> omega)) | exact nilT' (by first | omega | (simp only [List.length_append, List.length_cons, List.length_nil, List.length_take, List.length_drop, List.length_replicate, Int.natCast_add] at * <;> omega)) | exact nilF' (by first | omega | (simp only [List.length_append, List.length_cons, List.length_nil, List.length_take, List.length_drop, List.length_replicate, Int.natCast_add] at * <;> omega)))) ?_
  refine hcons (kIdxE (i := 0) (isX rfl) (isZ (m := 0) rfl) (denZ (m := 128) rfl) rfl (by first | omega | (simp only [List.length_append, List.length_cons, List.length_nil, List.length_take, List.length_drop, List.length_replicate, Int.natCast_add] at * <;> omega)) (bt_at rfl (by omega) (by omega))) ?_
  refine hcons (kLenE (isX rfl) (denX rfl) (by first | omega | (simp only [List.length_append, List.length_cons, List.length_nil, List.length_take, List.length_drop, List.length_replicate, Int.natCast_add] at * <;> omega))) ?_
  refine hcons (kLt (isX rfl) (isZ (m := 4) rfl) (decide_eq_false (by omega))) ?_
  refine hcons (kIdxE (i := 1) (isX rfl) (isZ (m := 1) rfl) (denZ (m := 0) rfl) rfl (by first | omega | (simp only [List.length_append, List.length_cons, List.length_nil, List.length_take, List.length_drop, List.length_replicate, Int.natCast_add] at * <;> omega)) (bt_at rfl (by omega) (by omega))) ?_
  refine hcons (kIdxE (i := 2) (isX rfl) (isZ (m := 2) rfl) (denZ (m := 0) rfl) rfl (by first | omega | (simp only [List.length_append, List.length_cons, List.length_nil, List.length_take, List.length_drop, List.length_replicate, Int.natCast_add] at * <;> omega)) (bt_at rfl (by omega) (by omega))) ?_
  refine hcons (kIdxE (i := 3) (isX rfl) (isZ (m := 3) rfl) (denX rfl) rfl (by first | omega | (simp only [List.length_append, List.length_cons, List.length_nil, List.length_take, List.length_drop, List.length_replicate, Int.natCast_add] at * <;> omega)) (bt_at rfl (by omega) (by omega))) ?_
  refine hcons (kConvF (isX rfl) tu3 (denX rfl) (fI64 (by omega) (by omega))) ?_
  refine hcons (kOrM 7 128 rfl (isZ (m := 0) rfl) (isX rfl) (denX rfl) (by omega) (by omega) (fI64 (by omega) (by omega)) (fI64 (by omega) (by omega)) (by omega) (by omega) (by omega) (fI64 (by omega) (by omega))) ?_
  refine hcons (kCut (isX rfl) (.inr ⟨_, _, rfl, (isZ (m := 4) rfl)⟩) (.inl ⟨rfl, rfl⟩) (p := [u8 128, u8 0, u8 0, u8 (n % 100)]) (m := ([u8 128, u8 0, u8 0, u8 (m % 100)] ++ ((List.replicate (Int.toNat (n % 100)) 0) ++ (List.replicate (Int.toNat (m % 100)) 0)))) (q := ([] : List UInt8)) (by first | rfl | (simp only [List.append_assoc, List.cons_append, List.nil_append, List.append_nil]; done)) (by first | omega | (simp only [List.length_append, List.length_cons, List.length_nil, List.length_take, List.length_drop, List.length_replicate, Int.natCast_add] at * <;> omega)) (by first | omega | (simp only [List.length_append, List.length_cons, List.length_nil, List.length_take, List.length_drop, List.length_replicate, Int.natCast_add] at * <;> omega)) (denX rfl)) ?_
  refine hcons (kEqS (isX rfl) (isSx (l := ([] : List UInt8)) 0 0 rfl) (by first | exact nilT (by first | omega | (simp only [List.length_append, List.length_cons, List.length_nil, List.length_take, List.length_drop, List.length_replicate, Int.natCast_add] at * <;> omega)) | exact nilF (by first | omega | (simp only [List.length_append, List.length_cons, List.length_nil, List.length_take, List.length_drop, List.length_replicate, Int.natCast_add] at * <;> omega)) | exact nilT' (by first | omega | (simp only [List.length_append, List.length_cons, List.length_nil, List.length_take, List.length_drop, List.length_replicate, Int.natCast_add] at * <;> omega)) | exact nilF' (by first | omega | (simp only [List.length_append, List.length_cons, List.length_nil, List.length_take, List.length_drop, List.length_replicate, Int.natCast_add] at * <;> omega)))) ?_
  refine hcons (kIdxE (i := 0) (isX rfl) (isZ (m := 0) rfl) (denZ (m := 128) rfl) rfl (by first | omega | (simp only [List.length_append, List.length_cons, List.length_nil, List.length_take, List.length_drop, List.length_replicate, Int.natCast_add] at * <;> omega)) (bt_at rfl (by omega) (by omega))) ?_
  refine hcons (kLenE (isX rfl) (denX rfl) (by first | omega | (simp only [List.length_append, List.length_cons, List.length_nil, List.length_take, List.length_drop, List.length_replicate, Int.natCast_add] at * <;> omega))) ?_
  refine hcons (kLt (isX rfl) (isZ (m := 4) rfl) (decide_eq_false (by omega))) ?_
  refine hcons (kIdxE (i := 1) (isX rfl) (isZ (m := 1) rfl) (denZ (m := 0) rfl) rfl (by first | omega | (simp only [List.length_append, List.length_cons, List.length_nil, List.length_take, List.length_drop, List.length_replicate, Int.natCast_add] at * <;> omega)) (bt_at rfl (by omega) (by omega))) ?_
  refine hcons (kIdxE (i := 2) (isX rfl) (isZ (m := 2) rfl) (denZ (m := 0) rfl) rfl (by first | omega | (simp only [List.length_append, List.length_cons, List.length_nil, List.length_take, List.length_drop, List.length_replicate, Int.natCast_add] at * <;> omega)) (bt_at rfl (by omega) (by omega))) ?_
  refine hcons (kIdxE (i := 3) (isX rfl) (isZ (m := 3) rfl) (denX rfl) rfl (by first | omega | (simp only [List.length_append, List.length_cons, List.length_nil, List.length_take, List.length_drop, List.length_replicate, Int.natCast_add] at * <;> omega)) (bt_at rfl (by omega) (by omega))) ?_
  refine hcons (kConvF (isX rfl) tu3 (denX rfl) (fI64 (by omega) (by omega))) ?_
  refine hcons (kOrM 7 128 rfl (isZ (m := 0) rfl) (isX rfl) (denX rfl) (by omega) (by omega) (fI64 (by omega) (by omega)) (fI64 (by omega) (by omega)) (by omega) (by omega) (by omega) (fI64 (by omega) (by omega))) ?_
  refine hcons (kCut (isX rfl) (.inr ⟨_, _, rfl, (isZ (m := 4) rfl)⟩) (.inl ⟨rfl, rfl⟩) (p := [u8 128, u8 0, u8 0, u8 (m % 100)]) (m := ((List.replicate (Int.toNat (n % 100)) 0) ++ (List.replicate (Int.toNat (m % 100)) 0))) (q := ([] : List UInt8)) (by first | rfl | (simp only [List.append_assoc, List.cons_append, List.nil_append, List.append_nil]; done)) (by first | omega | (simp only [List.length_append, List.length_cons, List.length_nil, List.length_take, List.length_drop, List.length_replicate, Int.natCast_add] at * <;> omega)) (by first | omega | (simp only [List.length_append, List.length_cons, List.length_nil, List.length_take, List.length_drop, List.length_replicate, Int.natCast_add] at * <;> omega)) (denX rfl)) ?_
  refine hcons (kLenE (isX rfl) (denX rfl) (by first | omega | (simp only [List.length_append, List.length_cons, List.length_nil, List.length_take, List.length_drop, List.length_replicate, Int.natCast_add] at * <;> omega))) ?_
  refine hcons (kLt (isX rfl) (isX rfl) (decide_eq_false (by omega))) ?_
  refine hcons (kSub (isX rfl) (isX rfl) (denX rfl) (by omega) (fI64 (by omega) (by omega))) ?_
  refine hcons (kLt (isX rfl) (isX rfl) (decide_eq_false (by omega))) ?_
  refine hcons (kCut (isX rfl) (.inl ⟨rfl, rfl⟩) (.inr ⟨_, _, rfl, (isX rfl)⟩) (p := ([] : List UInt8)) (m := (List.replicate (Int.toNat (n % 100)) 0)) (q := (List.replicate (Int.toNat (m % 100)) 0)) (by first | rfl | (simp only [List.append_assoc, List.cons_append, List.nil_append, List.append_nil]; done)) (by first | omega | (simp only [List.length_append, List.length_cons, List.length_nil, List.length_take, List.length_drop, List.length_replicate, Int.natCast_add] at * <;> omega)) (by first | omega | (simp only [List.length_append, List.length_cons, List.length_nil, List.length_take, List.length_drop, List.length_replicate, Int.natCast_add] at * <;> omega)) (denX rfl)) ?_
  refine hcons (kAdd (isX rfl) (isX rfl) (denX rfl) (by omega) (fI64 (by omega) (by omega))) ?_
  refine hcons (kCut (isX rfl) (.inr ⟨_, _, rfl, (isX rfl)⟩) (.inr ⟨_, _, rfl, (isX rfl)⟩) (p := (List.replicate (Int.toNat (n % 100)) 0)) (m := (List.replicate (Int.toNat (m % 100)) 0)) (q := ([] : List UInt8)) (by first | rfl | (simp only [List.append_assoc, List.cons_append, List.nil_append, List.append_nil]; done)) (by first | omega | (simp only [List.length_append, List.length_cons, List.length_nil, List.length_take, List.length_drop, List.length_replicate, Int.natCast_add] at * <;> omega)) (by first | omega | (simp only [List.length_append, List.length_cons, List.length_nil, List.length_take, List.length_drop, List.length_replicate, Int.natCast_add] at * <;> omega)) (denX rfl)) ?_
  refine hcons (kCut (isX rfl) (.inr ⟨_, _, rfl, (isX rfl)⟩) (.inl ⟨rfl, rfl⟩) (p := ((List.replicate (Int.toNat (n % 100)) 0) ++ (List.replicate (Int.toNat (m % 100)) 0))) (m := ([] : List UInt8)) (q := ([] : List UInt8)) (by first | rfl | (simp only [List.append_assoc, List.cons_append, List.nil_append, List.append_nil]; done)) (by first | omega | (simp only [List.length_append, List.length_cons, List.length_nil, List.length_take, List.length_drop, List.length_replicate, Int.natCast_add] at * <;> omega)) (by first | omega | (simp only [List.length_append, List.length_cons, List.length_nil, List.length_take, List.length_drop, List.length_replicate, Int.natCast_add] at * <;> omega)) (denX rfl)) ?_
  refine hcons (kNeS (isX rfl) (isSx (l := ([] : List UInt8)) 0 0 rfl) (bnF (decide_eq_true rfl))) ?_
  refine hcons (kSub (isX rfl) (isZ (m := 1) rfl) (denX rfl) (by omega) (fI64 (by omega) (by omega))) ?_
  refine hcons (kCut (isX rfl) (.inl ⟨rfl, rfl⟩) (.inr ⟨_, _, rfl, (isX rfl)⟩) (p := []) (m := [u8 128, u8 0, u8 0, u8 (n % 100), u8 128, u8 0, u8 0]) (q := ([u8 (m % 100)] ++ ((List.replicate (Int.toNat (n % 100)) 0) ++ (List.replicate (Int.toNat (m % 100)) 0)))) (by first | rfl | (simp only [List.append_assoc, List.cons_append, List.nil_append, List.append_nil]; done)) (by first | omega | (simp only [List.length_append, List.length_cons, List.length_nil, List.length_take, List.length_drop, List.length_replicate, Int.natCast_add] at * <;> omega)) (by first | omega | (simp only [List.length_append, List.length_cons, List.length_nil, List.length_take, List.length_drop, List.length_replicate, Int.natCast_add] at * <;> omega)) (denX rfl)) ?_
  refine hcons (kNeS (isX rfl) (isSx (l := ([] : List UInt8)) 0 0 rfl) (bnT (by first | exact nilT (by first | omega | (simp only [List.length_append, List.length_cons, List.length_nil, List.length_take, List.length_drop, List.length_replicate, Int.natCast_add] at * <;> omega)) | exact nilF (by first | omega | (simp only [List.length_append, List.length_cons, List.length_nil, List.length_take, List.length_drop, List.length_replicate, Int.natCast_add] at * <;> omega)) | exact nilT' (by first | omega | (simp only [List.length_append, List.length_cons, List.length_nil, List.length_take, List.length_drop, List.length_replicate, Int.natCast_add] at * <;> omega)) | exact nilF' (by first | omega | (simp only [List.length_append, List.length_cons, List.length_nil, List.length_take, List.length_drop, List.length_replicate, Int.natCast_add] at * <;> omega))))) ?_
  refine hcons (kEqS (isX rfl) (isSx (l := ([] : List UInt8)) 0 0 rfl) (by first | exact nilT (by first | omega | (simp only [List.length_append, List.length_cons, List.length_nil, List.length_take, List.length_drop, List.length_replicate, Int.natCast_add] at * <;> omega)) | exact nilF (by first | omega | (simp only [List.length_append, List.length_cons, List.length_nil, List.length_take, List.length_drop, List.length_replicate, Int.natCast_add] at * <;> omega)) | exact nilT' (by first | omega | (simp only [List.length_append, List.length_cons, List.length_nil, List.length_take, List.length_drop, List.length_replicate, Int.natCast_add] at * <;> omega)) | exact nilF' (by first | omega | (simp only [List.length_append, List.length_cons, List.length_nil, List.length_take, List.length_drop, List.length_replicate, Int.natCast_add] at * <;> omega)))) ?_
  refine hcons (kIdxE (i := 0) (isX rfl) (isZ (m := 0) rfl) (denZ (m := 128) rfl) rfl (by simp) (bt_at rfl (by omega) (by omega))) ?_
  refine hcons (kLenE (isX rfl) (denZ (m := 7) rfl) rfl) ?_
  refine hcons (kIdxE (i := 1) (isX rfl) (isZ (m := 1) rfl) (denZ (m := 0) rfl) rfl (by simp) (bt_at rfl (by omega) (by omega))) ?_
  refine hcons (kIdxE (i := 2) (isX rfl) (isZ (m := 2) rfl) (denZ (m := 0) rfl) rfl (by simp) (bt_at rfl (by omega) (by omega))) ?_
  refine hcons (kIdxE (i := 3) (isX rfl) (isZ (m := 3) rfl) (denX rfl) rfl (by simp) (bt_at rfl (by omega) (by omega))) ?_
  refine hcons (kConvF (isX rfl) tu3 (denX rfl) (fI64 (by omega) (by omega))) ?_
  refine hcons (kOrM 7 128 rfl (isZ (m := 0) rfl) (isX rfl) (denX rfl) (by omega) (by omega) (fI64 (by omega) (by omega)) (fI64 (by omega) (by omega)) (by omega) (by omega) (by omega) (fI64 (by omega) (by omega))) ?_
  refine hcons (kCut (isX rfl) (.inr ⟨_, _, rfl, (isZ (m := 4) rfl)⟩) (.inl ⟨rfl, rfl⟩) (p := [u8 128, u8 0, u8 0, u8 (n % 100)]) (m := [u8 128, u8 0, u8 0]) (q := ([] : List UInt8)) rfl rfl rfl (denX rfl)) ?_
  refine hcons (kEqS (isX rfl) (isSx (l := ([] : List UInt8)) 0 0 rfl) (by first | exact nilT (by first | omega | (simp only [List.length_append, List.length_cons, List.length_nil, List.length_take, List.length_drop, List.length_replicate, Int.natCast_add] at * <;> omega)) | exact nilF (by first | omega | (simp only [List.length_append, List.length_cons, List.length_nil, List.length_take, List.length_drop, List.length_replicate, Int.natCast_add] at * <;> omega)) | exact nilT' (by first | omega | (simp only [List.length_append, List.length_cons, List.length_nil, List.length_take, List.length_drop, List.length_replicate, Int.natCast_add] at * <;> omega)) | exact nilF' (by first | omega | (simp only [List.length_append, List.length_cons, List.length_nil, List.length_take, List.length_drop, List.length_replicate, Int.natCast_add] at * <;> omega)))) ?_
  refine hcons (kIdxE (i := 0) (isX rfl) (isZ (m := 0) rfl) (denZ (m := 128) rfl) rfl (by simp) (bt_at rfl (by omega) (by omega))) ?_
  refine hcons (kLenE (isX rfl) (denZ (m := 3) rfl) rfl) ?_
  refine hcons (kEqS (isX rfl) (isX rfl) (decide_eq_true rfl)) ?_
  refine hcons (kEqS (isX rfl) (isX rfl) (decide_eq_true rfl)) ?_
  exact hnil
theorem path2 (n : Int) (m : Int) (b0 : 0 ≤ n) (b1 : n ≤ 255) (b2 : 0 ≤ m) (b3 : m ≤ 255) (h7 : ¬ ((n % 100) + 8 ≤ (m % 100) + (n % 100) + 7)) (h8 : ¬ (8 ≤ (m % 100) + (n % 100) + 7)) (w : World) (hl : laidE w) : Calls Tryd.prog 3 #[.int .u8 n, .int .u8 m] w fun e w' => e = .returned (.bool true) ∧ Go.AX.Below w.heap.size w w' := by
  obtain ⟨fi, hfi, hb⟩ : ∃ fi, tabk.fn.get 3 = some fi ∧ fi.body.isSome = true := ⟨_, rfl, by kernel_rfl⟩
  exact runP (tb := tab2) ((tabkOk (nuL (nu2 n m)) (one2 n m)).hyps (hyOk2 n m b0 b1 b2 b3 h7 h8)) rfl hfi hb (fun e => run2 e ) (args := [.int .u8 n, .int .u8 m]) (by simp only [RelL, Rel]; exact ⟨_, _, rfl, rfl, ⟨_, _, rfl, rfl, rfl⟩⟩) w hl
end Go.Proofs.YticlhkekkfelpaaDoor.pairLong
