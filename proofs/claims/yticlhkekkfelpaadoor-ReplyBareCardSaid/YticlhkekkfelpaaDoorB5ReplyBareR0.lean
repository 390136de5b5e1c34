/- A part of the proof: an interpreter of the model's own code on partly known states, and that what it answers is what the program answers. No condition of its own. -/
import Derived.Test.YticlhkekkfelpaaDoorB5ReplyBareO
set_option maxRecDepth 100000
set_option linter.unusedVariables false
set_option linter.unusedSimpArgs false
namespace Go.Proofs.YticlhkekkfelpaaDoor.replyBare
open Go Go.AX Go.Proofs Go.Proofs.YticlhkekkfelpaaDoor
def hy0 : List (HK × AV) := [(.len (.x 1), .x 2),
  (.bin .gtr (.x 2) (.i .i64 (.ofNat 100)), .b false),
  (.bin .eql (.x 1) (.s 0 0), .b false),
  (.bin .rem (.x 0) (.i .u8 (.ofNat 4)), .i .u8 (.ofNat 0))]
noncomputable def tab0 : Tab := { tabk with hyp := hy0 }
theorem run0 (e1 : Nat) (e6 : Nat) : okB (call tab0 9000 6 [.x 0, .x 1] ⟨H0 e1 e6 , 7, 0, 0⟩) = true := by kernel_rfl
def nu0 (which : Int) (s : List UInt8) : List Value := [.int .u8 (which),
  St' s,
  .int .i64 ((s.length : Int))]
theorem one0 (which : Int) (s : List UInt8) : ∀ j, (nuL (nu0 which s) j).oneCell' = true := nuL_one (l := nu0 which s) rfl
set_option maxHeartbeats 2000000 in
theorem hyOk0 (which : Int) (s : List UInt8) (b0 : 0 ≤ which) (b1 : which ≤ 255) (b2 : s.length ≤ 9223372036854775807) (h0 : ¬ (100 < (s.length : Int))) (h1 : ¬ ((s.length : Int) = 0)) (h2 : which % 4 = 0) : ∀ k r, (k, r) ∈ hy0 → HOk (cx (nuL (nu0 which s)) (one0 which s) 7 laidE laidE_stab) k r := by
  unfold hy0
  refine hcons (kLenE (isX rfl) (denX rfl) (by first | omega | (simp only [List.length_append, List.length_cons, List.length_nil, List.length_take, List.length_drop, List.length_replicate, Int.natCast_add] at *; omega))) ?_
  refine hcons (kGt (isX rfl) (isZ (m := 100) rfl) (decide_eq_false (by omega))) ?_
  refine hcons (kEqS (isX rfl) (isSx (l := ([] : List UInt8)) 0 0 rfl) (by first | exact nilT (by first | omega | (simp only [List.length_append, List.length_cons, List.length_nil, List.length_take, List.length_drop, List.length_replicate, Int.natCast_add] at *; omega)) | exact nilF (by first | omega | (simp only [List.length_append, List.length_cons, List.length_nil, List.length_take, List.length_drop, List.length_replicate, Int.natCast_add] at *; omega)) | exact nilT' (by first | omega | (simp only [List.length_append, List.length_cons, List.length_nil, List.length_take, List.length_drop, List.length_replicate, Int.natCast_add] at *; omega)) | exact nilF' (by first | omega | (simp only [List.length_append, List.length_cons, List.length_nil, List.length_take, List.length_drop, List.length_replicate, Int.natCast_add] at *; omega)))) ?_
  refine hcons (kRem (isX rfl) (isZ (m := 4) rfl) (denZ (m := 0) rfl) (by omega) (by omega) (by omega)) ?_
  exact hnil
theorem path0 (which : Int) (s : List UInt8) (b0 : 0 ≤ which) (b1 : which ≤ 255) (b2 : s.length ≤ 9223372036854775807) (h0 : ¬ (100 < (s.length : Int))) (h1 : ¬ ((s.length : Int) = 0)) (h2 : which % 4 = 0) (w : World) (hl : laidE w) : Calls Tryd.prog 6 #[.int .u8 which, St' s] w fun e w' => e = .returned (.bool true) ∧ Go.AX.Below w.heap.size w w' := by
  obtain ⟨fi, hfi, hb⟩ : ∃ fi, tabk.fn.get 6 = some fi ∧ fi.body.isSome = true := ⟨_, rfl, by kernel_rfl⟩
  exact runP (tb := tab0) ((tabkOk (nuL (nu0 which s)) (one0 which s)).hyps (hyOk0 which s b0 b1 b2 h0 h1 h2)) rfl hfi hb (fun e1 e6 => run0 e1 e6 ) (args := [.int .u8 which, St' s]) (by simp only [RelL, Rel]; exact ⟨_, _, rfl, rfl, ⟨_, _, rfl, rfl, rfl⟩⟩) w hl
def hy1 : List (HK × AV) := [(.len (.x 1), .x 2),
  (.bin .gtr (.x 2) (.i .i64 (.ofNat 100)), .b false),
  (.bin .eql (.x 1) (.s 0 0), .b false),
  (.bin .rem (.x 0) (.i .u8 (.ofNat 4)), .i .u8 (.ofNat 1))]
noncomputable def tab1 : Tab := { tabk with hyp := hy1 }
theorem run1 (e1 : Nat) (e6 : Nat) : okB (call tab1 9000 6 [.x 0, .x 1] ⟨H0 e1 e6 , 7, 0, 0⟩) = true := by kernel_rfl
def nu1 (which : Int) (s : List UInt8) : List Value := [.int .u8 (which),
  St' s,
  .int .i64 ((s.length : Int))]
theorem one1 (which : Int) (s : List UInt8) : ∀ j, (nuL (nu1 which s) j).oneCell' = true := nuL_one (l := nu1 which s) rfl
set_option maxHeartbeats 2000000 in
theorem hyOk1 (which : Int) (s : List UInt8) (b0 : 0 ≤ which) (b1 : which ≤ 255) (b2 : s.length ≤ 9223372036854775807) (h0 : ¬ (100 < (s.length : Int))) (h1 : ¬ ((s.length : Int) = 0)) (h2 : which % 4 = 1) : ∀ k r, (k, r) ∈ hy1 → HOk (cx (nuL (nu1 which s)) (one1 which s) 7 laidE laidE_stab) k r := by
  unfold hy1
  refine hcons (kLenE (isX rfl) (denX rfl) (by first | omega | (simp only [List.length_append, List.length_cons, List.length_nil, List.length_take, List.length_drop, List.length_replicate, Int.natCast_add] at *; omega))) ?_
  refine hcons (kGt (isX rfl) (isZ (m := 100) rfl) (decide_eq_false (by omega))) ?_
  refine hcons (kEqS (isX rfl) (isSx (l := ([] : List UInt8)) 0 0 rfl) (by first | exact nilT (by first | omega | (simp only [List.length_append, List.length_cons, List.length_nil, List.length_take, List.length_drop, List.length_replicate, Int.natCast_add] at *; omega)) | exact nilF (by first | omega | (simp only [List.length_append, List.length_cons, List.length_nil, List.length_take, List.length_drop, List.length_replicate, Int.natCast_add] at *; omega)) | exact nilT' (by first | omega | (simp only [List.length_append, List.length_cons, List.length_nil, List.length_take, List.length_drop, List.length_replicate, Int.natCast_add] at *; omega)) | exact nilF' (by first | omega | (simp only [List.length_append, List.length_cons, List.length_nil, List.length_take, List.length_drop, List.length_replicate, Int.natCast_add] at *; omega)))) ?_
  refine hcons (kRem (isX rfl) (isZ (m := 4) rfl) (denZ (m := 1) rfl) (by omega) (by omega) (by omega)) ?_
  exact hnil
theorem path1 (which : Int) (s : List UInt8) (b0 : 0 ≤ which) (b1 : which ≤ 255) (b2 : s.length ≤ 9223372036854775807) (h0 : ¬ (100 < (s.length : Int))) (h1 : ¬ ((s.length : Int) = 0)) (h2 : which % 4 = 1) (w : World) (hl : laidE w) : Calls Tryd.prog 6 #[.int .u8 which, St' s] w fun e w' => e = .returned (.bool true) ∧ Go.AX.Below w.heap.size w w' := by
  obtain ⟨fi, hfi, hb⟩ : ∃ fi, tabk.fn.get 6 = some fi ∧ fi.body.isSome = true := ⟨_, rfl, by kernel_rfl⟩
  exact runP (tb := tab1) ((tabkOk (nuL (nu1 which s)) (one1 which s)).hyps (hyOk1 which s b0 b1 b2 h0 h1 h2)) rfl hfi hb (fun e1 e6 => run1 e1 e6 ) (args := [.int .u8 which, St' s]) (by simp only [RelL, Rel]; exact ⟨_, _, rfl, rfl, ⟨_, _, rfl, rfl, rfl⟩⟩) w hl
def hy2 : List (HK × AV) := [(.len (.x 1), .x 2),
  (.bin .gtr (.x 2) (.i .i64 (.ofNat 100)), .b false),
  (.bin .eql (.x 1) (.s 0 0), .b false),
  (.bin .rem (.x 0) (.i .u8 (.ofNat 4)), .i .u8 (.ofNat 2))]
noncomputable def tab2 : Tab := { tabk with hyp := hy2 }
theorem run2 (e1 : Nat) (e6 : Nat) : okB (call tab2 9000 6 [.x 0, .x 1] ⟨H0 e1 e6 , 7, 0, 0⟩) = true := by kernel_rfl
def nu2 (which : Int) (s : List UInt8) : List Value := [.int .u8 (which),
  St' s,
  .int .i64 ((s.length : Int))]
theorem one2 (which : Int) (s : List UInt8) : ∀ j, (nuL (nu2 which s) j).oneCell' = true := nuL_one (l := nu2 which s) rfl
set_option maxHeartbeats 2000000 in
theorem hyOk2 (which : Int) (s : List UInt8) (b0 : 0 ≤ which) (b1 : which ≤ 255) (b2 : s.length ≤ 9223372036854775807) (h0 : ¬ (100 < (s.length : Int))) (h1 : ¬ ((s.length : Int) = 0)) (h2 : which % 4 = 2) : ∀ k r, (k, r) ∈ hy2 → HOk (cx (nuL (nu2 which s)) (one2 which s) 7 laidE laidE_stab) k r := by
  unfold hy2
  refine hcons (kLenE (isX rfl) (denX rfl) (by first | omega | (simp only [List.length_append, List.length_cons, List.length_nil, List.length_take, List.length_drop, List.length_replicate, Int.natCast_add] at *; omega))) ?_
  refine hcons (kGt (isX rfl) (isZ (m := 100) rfl) (decide_eq_false (by omega))) ?_
  refine hcons (kEqS (isX rfl) (isSx (l := ([] : List UInt8)) 0 0 rfl) (by first | exact nilT (by first | omega | (simp only [List.length_append, List.length_cons, List.length_nil, List.length_take, List.length_drop, List.length_replicate, Int.natCast_add] at *; omega)) | exact nilF (by first | omega | (simp only [List.length_append, List.length_cons, List.length_nil, List.length_take, List.length_drop, List.length_replicate, Int.natCast_add] at *; omega)) | exact nilT' (by first | omega | (simp only [List.length_append, List.length_cons, List.length_nil, List.length_take, List.length_drop, List.length_replicate, Int.natCast_add] at *; omega)) | exact nilF' (by first | omega | (simp only [List.length_append, List.length_cons, List.length_nil, List.length_take, List.length_drop, List.length_replicate, Int.natCast_add] at *; omega)))) ?_
  refine hcons (kRem (isX rfl) (isZ (m := 4) rfl) (denZ (m := 2) rfl) (by omega) (by omega) (by omega)) ?_
  exact hnil
theorem path2 (which : Int) (s : List UInt8) (b0 : 0 ≤ which) (b1 : which ≤ 255) (b2 : s.length ≤ 9223372036854775807) (h0 : ¬ (100 < (s.length : Int))) (h1 : ¬ ((s.length : Int) = 0)) (h2 : which % 4 = 2) (w : World) (hl : laidE w) : Calls Tryd.prog 6 #[.int .u8 which, St' s] w fun e w' => e = .returned (.bool true) ∧ Go.AX.Below w.heap.size w w' := by
  obtain ⟨fi, hfi, hb⟩ : ∃ fi, tabk.fn.get 6 = some fi ∧ fi.body.isSome = true := ⟨_, rfl, by kernel_rfl⟩
  exact runP (tb := tab2) ((tabkOk (nuL (nu2 which s)) (one2 which s)).hyps (hyOk2 which s b0 b1 b2 h0 h1 h2)) rfl hfi hb (fun e1 e6 => run2 e1 e6 ) (args := [.int .u8 which, St' s]) (by simp only [RelL, Rel]; exact ⟨_, _, rfl, rfl, ⟨_, _, rfl, rfl, rfl⟩⟩) w hl
def hy3 : List (HK × AV) := [(.len (.x 1), .x 2),
  (.bin .gtr (.x 2) (.i .i64 (.ofNat 100)), .b false),
  (.bin .eql (.x 1) (.s 0 0), .b false),
  (.bin .rem (.x 0) (.i .u8 (.ofNat 4)), .i .u8 (.ofNat 3)),
  (.conv 105 (.x 2), .x 3),
  (.bin .lss (.x 2) (.i .i64 (.ofNat 0)), .b false),
  (.bin .geq (.x 3) (.i .u64 (.ofNat 16)), .b false),
  (.idx (.s 36 237927390410950444456928663707796224754864904193074819559483181009558347043374296609072) (.x 3), .x 4),
  (.bytes [.x 4], .x 5),
  (.bin .add (.x 5) (.s 2 2573), .x 6),
  (.bin .add (.x 6) (.x 1), .x 7),
  (.bin .add (.x 7) (.s 2 2573), .x 8),
  (.bin .eql (.x 8) (.s 0 0), .b false)]
noncomputable def tab3 : Tab := { tabk with hyp := hy3 }
theorem run3 (e1 : Nat) (e6 : Nat) : okB (call tab3 9000 6 [.x 0, .x 1] ⟨H0 e1 e6 , 7, 0, 0⟩) = true := by kernel_rfl
def nu3 (which : Int) (s : List UInt8) : List Value := [.int .u8 (which),
  St' s,
  .int .i64 ((s.length : Int)),
  .int .u64 ((s.length : Int)),
  .int .u8 (bt ([u8 48, u8 49, u8 50, u8 51, u8 52, u8 53, u8 54, u8 55, u8 56, u8 57, u8 97, u8 98, u8 99, u8 100, u8 101, u8 102, u8 103, u8 104, u8 105, u8 106, u8 107, u8 108, u8 109, u8 110, u8 111, u8 112, u8 113, u8 114, u8 115, u8 116, u8 117, u8 118, u8 119, u8 120, u8 121, u8 122]) (Int.toNat ((s.length : Int)))),
  St' ([u8 (bt ([u8 48, u8 49, u8 50, u8 51, u8 52, u8 53, u8 54, u8 55, u8 56, u8 57, u8 97, u8 98, u8 99, u8 100, u8 101, u8 102, u8 103, u8 104, u8 105, u8 106, u8 107, u8 108, u8 109, u8 110, u8 111, u8 112, u8 113, u8 114, u8 115, u8 116, u8 117, u8 118, u8 119, u8 120, u8 121, u8 122]) (Int.toNat ((s.length : Int))))]),
  St' ([u8 (bt ([u8 48, u8 49, u8 50, u8 51, u8 52, u8 53, u8 54, u8 55, u8 56, u8 57, u8 97, u8 98, u8 99, u8 100, u8 101, u8 102, u8 103, u8 104, u8 105, u8 106, u8 107, u8 108, u8 109, u8 110, u8 111, u8 112, u8 113, u8 114, u8 115, u8 116, u8 117, u8 118, u8 119, u8 120, u8 121, u8 122]) (Int.toNat ((s.length : Int)))), u8 13, u8 10]),
  St' (([u8 (bt ([u8 48, u8 49, u8 50, u8 51, u8 52, u8 53, u8 54, u8 55, u8 56, u8 57, u8 97, u8 98, u8 99, u8 100, u8 101, u8 102, u8 103, u8 104, u8 105, u8 106, u8 107, u8 108, u8 109, u8 110, u8 111, u8 112, u8 113, u8 114, u8 115, u8 116, u8 117, u8 118, u8 119, u8 120, u8 121, u8 122]) (Int.toNat ((s.length : Int)))), u8 13, u8 10] ++ s)),
  St' (([u8 (bt ([u8 48, u8 49, u8 50, u8 51, u8 52, u8 53, u8 54, u8 55, u8 56, u8 57, u8 97, u8 98, u8 99, u8 100, u8 101, u8 102, u8 103, u8 104, u8 105, u8 106, u8 107, u8 108, u8 109, u8 110, u8 111, u8 112, u8 113, u8 114, u8 115, u8 116, u8 117, u8 118, u8 119, u8 120, u8 121, u8 122]) (Int.toNat ((s.length : Int)))), u8 13, u8 10] ++ (s ++ [u8 13, u8 10])))]
theorem one3 (which : Int) (s : List UInt8) : ∀ j, (nuL (nu3 which s) j).oneCell' = true := nuL_one (l := nu3 which s) rfl
set_option maxHeartbeats 2000000 in
theorem hyOk3 (which : Int) (s : List UInt8) (b0 : 0 ≤ which) (b1 : which ≤ 255) (b2 : s.length ≤ 9223372036854775807) (h0 : ¬ (100 < (s.length : Int))) (h1 : ¬ ((s.length : Int) = 0)) (h2 : which % 4 = 3) (h4 : ¬ (16 ≤ (s.length : Int))) : ∀ k r, (k, r) ∈ hy3 → HOk (cx (nuL (nu3 which s)) (one3 which s) 7 laidE laidE_stab) k r := by
  have := bt_lo ([u8 48, u8 49, u8 50, u8 51, u8 52, u8 53, u8 54, u8 55, u8 56, u8 57, u8 97, u8 98, u8 99, u8 100, u8 101, u8 102, u8 103, u8 104, u8 105, u8 106, u8 107, u8 108, u8 109, u8 110, u8 111, u8 112, u8 113, u8 114, u8 115, u8 116, u8 117, u8 118, u8 119, u8 120, u8 121, u8 122]) (Int.toNat ((s.length : Int))); have := bt_hi ([u8 48, u8 49, u8 50, u8 51, u8 52, u8 53, u8 54, u8 55, u8 56, u8 57, u8 97, u8 98, u8 99, u8 100, u8 101, u8 102, u8 103, u8 104, u8 105, u8 106, u8 107, u8 108, u8 109, u8 110, u8 111, u8 112, u8 113, u8 114, u8 115, u8 116, u8 117, u8 118, u8 119, u8 120, u8 121, u8 122]) (Int.toNat ((s.length : Int)))
  unfold hy3
  refine hcons (kLenE (isX rfl) (denX rfl) (by first | omega | (simp only [List.length_append, List.length_cons, List.length_nil, List.length_take, List.length_drop, List.length_replicate, Int.natCast_add] at *; omega))) ?_
  refine hcons (kGt (isX rfl) (isZ (m := 100) rfl) (decide_eq_false (by omega))) ?_
  refine hcons (kEqS (isX rfl) (isSx (l := ([] : List UInt8)) 0 0 rfl) (by first | exact nilT (by first | omega | (simp only [List.length_append, List.length_cons, List.length_nil, List.length_take, List.length_drop, List.length_replicate, Int.natCast_add] at *; omega)) | exact nilF (by first | omega | (simp only [List.length_append, List.length_cons, List.length_nil, List.length_take, List.length_drop, List.length_replicate, Int.natCast_add] at *; omega)) | exact nilT' (by first | omega | (simp only [List.length_append, List.length_cons, List.length_nil, List.length_take, List.length_drop, List.length_replicate, Int.natCast_add] at *; omega)) | exact nilF' (by first | omega | (simp only [List.length_append, List.length_cons, List.length_nil, List.length_take, List.length_drop, List.length_replicate, Int.natCast_add] at *; omega)))) ?_
  refine hcons (kRem (isX rfl) (isZ (m := 4) rfl) (denZ (m := 3) rfl) (by omega) (by omega) (by omega)) ?_
  refine hcons (kConvF (isX rfl) tu105 (denX rfl) (fU64 (by omega) (by omega))) ?_
  refine hcons (kLt (isX rfl) (isZ (m := 0) rfl) (decide_eq_false (by omega))) ?_
  refine hcons (kGe (isX rfl) (isZ (m := 16) rfl) (decide_eq_false (by omega))) ?_
  refine hcons (kIdxE (i := (Int.toNat ((s.length : Int)))) (isSx (l := [u8 48, u8 49, u8 50, u8 51, u8 52, u8 53, u8 54, u8 55, u8 56, u8 57, u8 97, u8 98, u8 99, u8 100, u8 101, u8 102, u8 103, u8 104, u8 105, u8 106, u8 107, u8 108, u8 109, u8 110, u8 111, u8 112, u8 113, u8 114, u8 115, u8 116, u8 117, u8 118, u8 119, u8 120, u8 121, u8 122]) 36 237927390410950444456928663707796224754864904193074819559483181009558347043374296609072 rfl) (isX rfl) (denX rfl) (by omega) (by first | omega | (simp only [List.length_append, List.length_cons, List.length_nil, List.length_take, List.length_drop, List.length_replicate, Int.natCast_add] at *; omega)) rfl) ?_
  refine hcons (kBytesB (bs := [u8 (bt ([u8 48, u8 49, u8 50, u8 51, u8 52, u8 53, u8 54, u8 55, u8 56, u8 57, u8 97, u8 98, u8 99, u8 100, u8 101, u8 102, u8 103, u8 104, u8 105, u8 106, u8 107, u8 108, u8 109, u8 110, u8 111, u8 112, u8 113, u8 114, u8 115, u8 116, u8 117, u8 118, u8 119, u8 120, u8 121, u8 122]) (Int.toNat ((s.length : Int))))]) (.cons (isB8 (isX rfl) (by omega) (by omega)) .nil) (denX rfl)) ?_
  refine hcons (kCat (isX rfl) (isSx (l := [u8 13, u8 10]) 2 2573 rfl) (denX rfl) (by first | rfl | (simp only [List.append_assoc, List.cons_append, List.nil_append, List.append_nil]; done)) (by first | omega | (simp only [List.length_append, List.length_cons, List.length_nil, List.length_take, List.length_drop, List.length_replicate, Int.natCast_add] at *; omega))) ?_
  refine hcons (kCat (isX rfl) (isX rfl) (denX rfl) (by first | rfl | (simp only [List.append_assoc, List.cons_append, List.nil_append, List.append_nil]; done)) (by first | omega | (simp only [List.length_append, List.length_cons, List.length_nil, List.length_take, List.length_drop, List.length_replicate, Int.natCast_add] at *; omega))) ?_
  refine hcons (kCat (isX rfl) (isSx (l := [u8 13, u8 10]) 2 2573 rfl) (denX rfl) (by first | rfl | (simp only [List.append_assoc, List.cons_append, List.nil_append, List.append_nil]; done)) (by first | omega | (simp only [List.length_append, List.length_cons, List.length_nil, List.length_take, List.length_drop, List.length_replicate, Int.natCast_add] at *; omega))) ?_
  refine hcons (kEqS (isX rfl) (isSx (l := ([] : List UInt8)) 0 0 rfl) (by first | exact nilT (by first | omega | (simp only [List.length_append, List.length_cons, List.length_nil, List.length_take, List.length_drop, List.length_replicate, Int.natCast_add] at *; omega)) | exact nilF (by first | omega | (simp only [List.length_append, List.length_cons, List.length_nil, List.length_take, List.length_drop, List.length_replicate, Int.natCast_add] at *; omega)) | exact nilT' (by first | omega | (simp only [List.length_append, List.length_cons, List.length_nil, List.length_take, List.length_drop, List.length_replicate, Int.natCast_add] at *; omega)) | exact nilF' (by first | omega | (simp only [List.length_append, List.length_cons, List.length_nil, List.length_take, List.length_drop, List.length_replicate, Int.natCast_add] at *; omega)))) ?_
  exact hnil
theorem path3 (which : Int) (s : List UInt8) (b0 : 0 ≤ which) (b1 : which ≤ 255) (b2 : s.length ≤ 9223372036854775807) (h0 : ¬ (100 < (s.length : Int))) (h1 : ¬ ((s.length : Int) = 0)) (h2 : which % 4 = 3) (h4 : ¬ (16 ≤ (s.length : Int))) (w : World) (hl : laidE w) : Calls Tryd.prog 6 #[.int .u8 which, St' s] w fun e w' => e = .returned (.bool true) ∧ Go.AX.Below w.heap.size w w' := by
  obtain ⟨fi, hfi, hb⟩ : ∃ fi, tabk.fn.get 6 = some fi ∧ fi.body.isSome = true := ⟨_, rfl, by kernel_rfl⟩
  exact runP (tb := tab3) ((tabkOk (nuL (nu3 which s)) (one3 which s)).hyps (hyOk3 which s b0 b1 b2 h0 h1 h2 h4)) rfl hfi hb (fun e1 e6 => run3 e1 e6 ) (args := [.int .u8 which, St' s]) (by simp only [RelL, Rel]; exact ⟨_, _, rfl, rfl, ⟨_, _, rfl, rfl, rfl⟩⟩) w hl
def hy4 : List (HK × AV) := [(.len (.x 1), .x 2),
  (.bin .gtr (.x 2) (.i .i64 (.ofNat 100)), .b false),
  (.bin .eql (.x 1) (.s 0 0), .b false),
  (.bin .rem (.x 0) (.i .u8 (.ofNat 4)), .i .u8 (.ofNat 3)),
  (.conv 105 (.x 2), .x 3),
  (.bin .lss (.x 2) (.i .i64 (.ofNat 0)), .b false),
  (.bin .geq (.x 3) (.i .u64 (.ofNat 16)), .b true),
  (.bin .and (.x 3) (.i .u64 (.ofNat 15)), .x 4),
  (.idx (.s 36 237927390410950444456928663707796224754864904193074819559483181009558347043374296609072) (.x 4), .x 5),
  (.bin .shr (.x 3) (.i .u64 (.ofNat 4)), .x 6),
  (.bin .geq (.x 6) (.i .u64 (.ofNat 16)), .b false),
  (.idx (.s 36 237927390410950444456928663707796224754864904193074819559483181009558347043374296609072) (.x 6), .x 7),
  (.bytes [.x 7, .x 5], .x 8),
  (.bin .add (.x 8) (.s 2 2573), .x 9),
  (.bin .add (.x 9) (.x 1), .x 10),
  (.bin .add (.x 10) (.s 2 2573), .x 11),
  (.bin .eql (.x 11) (.s 0 0), .b false)]
noncomputable def tab4 : Tab := { tabk with hyp := hy4 }
theorem run4 (e1 : Nat) (e6 : Nat) : okB (call tab4 9000 6 [.x 0, .x 1] ⟨H0 e1 e6 , 7, 0, 0⟩) = true := by kernel_rfl
def nu4 (which : Int) (s : List UInt8) : List Value := [.int .u8 (which),
  St' s,
  .int .i64 ((s.length : Int)),
  .int .u64 ((s.length : Int)),
  .int .u64 (((s.length : Int)) % 16),
  .int .u8 (bt ([u8 48, u8 49, u8 50, u8 51, u8 52, u8 53, u8 54, u8 55, u8 56, u8 57, u8 97, u8 98, u8 99, u8 100, u8 101, u8 102, u8 103, u8 104, u8 105, u8 106, u8 107, u8 108, u8 109, u8 110, u8 111, u8 112, u8 113, u8 114, u8 115, u8 116, u8 117, u8 118, u8 119, u8 120, u8 121, u8 122]) (Int.toNat (((s.length : Int)) % 16))),
  .int .u64 (((s.length : Int)) / 16),
  .int .u8 (bt ([u8 48, u8 49, u8 50, u8 51, u8 52, u8 53, u8 54, u8 55, u8 56, u8 57, u8 97, u8 98, u8 99, u8 100, u8 101, u8 102, u8 103, u8 104, u8 105, u8 106, u8 107, u8 108, u8 109, u8 110, u8 111, u8 112, u8 113, u8 114, u8 115, u8 116, u8 117, u8 118, u8 119, u8 120, u8 121, u8 122]) (Int.toNat (((s.length : Int)) / 16))),
  St' ([u8 (bt ([u8 48, u8 49, u8 50, u8 51, u8 52, u8 53, u8 54, u8 55, u8 56, u8 57, u8 97, u8 98, u8 99, u8 100, u8 101, u8 102, u8 103, u8 104, u8 105, u8 106, u8 107, u8 108, u8 109, u8 110, u8 111, u8 112, u8 113, u8 114, u8 115, u8 116, u8 117, u8 118, u8 119, u8 120, u8 121, u8 122]) (Int.toNat (((s.length : Int)) / 16))), u8 (bt ([u8 48, u8 49, u8 50, u8 51, u8 52, u8 53, u8 54, u8 55, u8 56, u8 57, u8 97, u8 98, u8 99, u8 100, u8 101, u8 102, u8 103, u8 104, u8 105, u8 106, u8 107, u8 108, u8 109, u8 110, u8 111, u8 112, u8 113, u8 114, u8 115, u8 116, u8 117, u8 118, u8 119, u8 120, u8 121, u8 122]) (Int.toNat (((s.length : Int)) % 16)))]),
  St' ([u8 (bt ([u8 48, u8 49, u8 50, u8 51, u8 52, u8 53, u8 54, u8 55, u8 56, u8 57, u8 97, u8 98, u8 99, u8 100, u8 101, u8 102, u8 103, u8 104, u8 105, u8 106, u8 107, u8 108, u8 109, u8 110, u8 111, u8 112, u8 113, u8 114, u8 115, u8 116, u8 117, u8 118, u8 119, u8 120, u8 121, u8 122]) (Int.toNat (((s.length : Int)) / 16))), u8 (bt ([u8 48, u8 49, u8 50, u8 51, u8 52, u8 53, u8 54, u8 55, u8 56, u8 57, u8 97, u8 98, u8 99, u8 100, u8 101, u8 102, u8 103, u8 104, u8 105, u8 106, u8 107, u8 108, u8 109, u8 110, u8 111, u8 112, u8 113, u8 114, u8 115, u8 116, u8 117, u8 118, u8 119, u8 120, u8 121, u8 122]) (Int.toNat (((s.length : Int)) % 16))), u8 13, u8 10]),
  St' (([u8 (bt ([u8 48, u8 49, u8 50, u8 51, u8 52, u8 53, u8 54, u8 55, u8 56, u8 57, u8 97, u8 98, u8 99, u8 100, u8 101, u8 102, u8 103, u8 104, u8 105, u8 106, u8 107, u8 108, u8 109, u8 110, u8 111, u8 112, u8 113, u8 114, u8 115, u8 116, u8 117, u8 118, u8 119, u8 120, u8 121, u8 122]) (Int.toNat (((s.length : Int)) / 16))), u8 (bt ([u8 48, u8 49, u8 50, u8 51, u8 52, u8 53, u8 54, u8 55, u8 56, u8 57, u8 97, u8 98, u8 99, u8 100, u8 101, u8 102, u8 103, u8 104, u8 105, u8 106, u8 107, u8 108, u8 109, u8 110, u8 111, u8 112, u8 113, u8 114, u8 115, u8 116, u8 117, u8 118, u8 119, u8 120, u8 121, u8 122]) (Int.toNat (((s.length : Int)) % 16))), u8 13, u8 10] ++ s)),
  St' (([u8 (bt ([u8 48, u8 49, u8 50, u8 51, u8 52, u8 53, u8 54, u8 55, u8 56, u8 57, u8 97, u8 98, u8 99, u8 100, u8 101, u8 102, u8 103, u8 104, u8 105, u8 106, u8 107, u8 108, u8 109, u8 110, u8 111, u8 112, u8 113, u8 114, u8 115, u8 116, u8 117, u8 118, u8 119, u8 120, u8 121, u8 122]) (Int.toNat (((s.length : Int)) / 16))), u8 (bt ([u8 48, u8 49, u8 50, u8 51, u8 52, u8 53, u8 54, u8 55, u8 56, u8 57, u8 97, u8 98, u8 99, u8 100, u8 101, u8 102, u8 103, u8 104, u8 105, u8 106, u8 107, u8 108, u8 109, u8 110, u8 111, u8 112, u8 113, u8 114, u8 115, u8 116, u8 117, u8 118, u8 119, u8 120, u8 121, u8 122]) (Int.toNat (((s.length : Int)) % 16))), u8 13, u8 10] ++ (s ++ [u8 13, u8 10])))]
theorem one4 (which : Int) (s : List UInt8) : ∀ j, (nuL (nu4 which s) j).oneCell' = true := nuL_one (l := nu4 which s) rfl
set_option maxHeartbeats 2000000 in
theorem hyOk4 (which : Int) (s : List UInt8) (b0 : 0 ≤ which) (b1 : which ≤ 255) (b2 : s.length ≤ 9223372036854775807) (h0 : ¬ (100 < (s.length : Int))) (h1 : ¬ ((s.length : Int) = 0)) (h2 : which % 4 = 3) (h4 : 16 ≤ (s.length : Int)) : ∀ k r, (k, r) ∈ hy4 → HOk (cx (nuL (nu4 which s)) (one4 which s) 7 laidE laidE_stab) k r := by
  have := bt_lo ([u8 48, u8 49, u8 50, u8 51, u8 52, u8 53, u8 54, u8 55, u8 56, u8 57, u8 97, u8 98, u8 99, u8 100, u8 101, u8 102, u8 103, u8 104, u8 105, u8 106, u8 107, u8 108, u8 109, u8 110, u8 111, u8 112, u8 113, u8 114, u8 115, u8 116, u8 117, u8 118, u8 119, u8 120, u8 121, u8 122]) (Int.toNat (((s.length : Int)) % 16)); have := bt_hi ([u8 48, u8 49, u8 50, u8 51, u8 52, u8 53, u8 54, u8 55, u8 56, u8 57, u8 97, u8 98, u8 99, u8 100, u8 101, u8 102, u8 103, u8 104, u8 105, u8 106, u8 107, u8 108, u8 109, u8 110, u8 111, u8 112, u8 113, u8 114, u8 115, u8 116, u8 117, u8 118, u8 119, u8 120, u8 121, u8 122]) (Int.toNat (((s.length : Int)) % 16))
  have := bt_lo ([u8 48, u8 49, u8 50, u8 51, u8 52, u8 53, u8 54, u8 55, u8 56, u8 57, u8 97, u8 98, u8 99, u8 100, u8 101, u8 102, u8 103, u8 104, u8 105, u8 106, u8 107, u8 108, u8 109, u8 110, u8 111, u8 112, u8 113, u8 114, u8 115, u8 116, u8 117, u8 118, u8 119, u8 120, u8 121, u8 122]) (Int.toNat (((s.length : Int)) / 16)); have := bt_hi ([u8 48, u8 49, u8 50, u8 51, u8 52, u8 53, u8 54, u8 55, u8 56, u8 57, u8 97, u8 98, u8 99, u8 100, u8 101, u8 102, u8 103, u8 104, u8 105, u8 106, u8 107, u8 108, u8 109, u8 110, u8 111, u8 112, u8 113, u8 114, u8 115, u8 116, u8 117, u8 118, u8 119, u8 120, u8 121, u8 122]) (Int.toNat (((s.length : Int)) / 16))
  unfold hy4
  refine hcons (kLenE (isX rfl) (denX rfl) (by first | omega | (simp only [List.length_append, List.length_cons, List.length_nil, List.length_take, List.length_drop, List.length_replicate, Int.natCast_add] at *; omega))) ?_
  refine hcons (kGt (isX rfl) (isZ (m := 100) rfl) (decide_eq_false (by omega))) ?_
  refine hcons (kEqS (isX rfl) (isSx (l := ([] : List UInt8)) 0 0 rfl) (by first | exact nilT (by first | omega | (simp only [List.length_append, List.length_cons, List.length_nil, List.length_take, List.length_drop, List.length_replicate, Int.natCast_add] at *; omega)) | exact nilF (by first | omega | (simp only [List.length_append, List.length_cons, List.length_nil, List.length_take, List.length_drop, List.length_replicate, Int.natCast_add] at *; omega)) | exact nilT' (by first | omega | (simp only [List.length_append, List.length_cons, List.length_nil, List.length_take, List.length_drop, List.length_replicate, Int.natCast_add] at *; omega)) | exact nilF' (by first | omega | (simp only [List.length_append, List.length_cons, List.length_nil, List.length_take, List.length_drop, List.length_replicate, Int.natCast_add] at *; omega)))) ?_
  refine hcons (kRem (isX rfl) (isZ (m := 4) rfl) (denZ (m := 3) rfl) (by omega) (by omega) (by omega)) ?_
  refine hcons (kConvF (isX rfl) tu105 (denX rfl) (fU64 (by omega) (by omega))) ?_
  refine hcons (kLt (isX rfl) (isZ (m := 0) rfl) (decide_eq_false (by omega))) ?_
  refine hcons (kGe (isX rfl) (isZ (m := 16) rfl) (decide_eq_true (by omega))) ?_
  refine hcons (kAndM 4 16 rfl (isX rfl) (isZ (m := 15) rfl) (denX rfl) (by omega) (fU64 (by omega) (by omega)) (fU64 (by omega) (by omega)) rfl rfl) ?_
  refine hcons (kIdxE (i := (Int.toNat (((s.length : Int)) % 16))) (isSx (l := [u8 48, u8 49, u8 50, u8 51, u8 52, u8 53, u8 54, u8 55, u8 56, u8 57, u8 97, u8 98, u8 99, u8 100, u8 101, u8 102, u8 103, u8 104, u8 105, u8 106, u8 107, u8 108, u8 109, u8 110, u8 111, u8 112, u8 113, u8 114, u8 115, u8 116, u8 117, u8 118, u8 119, u8 120, u8 121, u8 122]) 36 237927390410950444456928663707796224754864904193074819559483181009558347043374296609072 rfl) (isX rfl) (denX rfl) (by omega) (by first | omega | (simp only [List.length_append, List.length_cons, List.length_nil, List.length_take, List.length_drop, List.length_replicate, Int.natCast_add] at *; omega)) rfl) ?_
  refine hcons (kShrM 4 16 rfl (isX rfl) (isZ (m := 4) rfl) (denX rfl) rfl (by decide) (by omega) rfl) ?_
  refine hcons (kGe (isX rfl) (isZ (m := 16) rfl) (decide_eq_false (by omega))) ?_
  refine hcons (kIdxE (i := (Int.toNat (((s.length : Int)) / 16))) (isSx (l := [u8 48, u8 49, u8 50, u8 51, u8 52, u8 53, u8 54, u8 55, u8 56, u8 57, u8 97, u8 98, u8 99, u8 100, u8 101, u8 102, u8 103, u8 104, u8 105, u8 106, u8 107, u8 108, u8 109, u8 110, u8 111, u8 112, u8 113, u8 114, u8 115, u8 116, u8 117, u8 118, u8 119, u8 120, u8 121, u8 122]) 36 237927390410950444456928663707796224754864904193074819559483181009558347043374296609072 rfl) (isX rfl) (denX rfl) (by omega) (by first | omega | (simp only [List.length_append, List.length_cons, List.length_nil, List.length_take, List.length_drop, List.length_replicate, Int.natCast_add] at *; omega)) rfl) ?_
  refine hcons (kBytesB (bs := [u8 (bt ([u8 48, u8 49, u8 50, u8 51, u8 52, u8 53, u8 54, u8 55, u8 56, u8 57, u8 97, u8 98, u8 99, u8 100, u8 101, u8 102, u8 103, u8 104, u8 105, u8 106, u8 107, u8 108, u8 109, u8 110, u8 111, u8 112, u8 113, u8 114, u8 115, u8 116, u8 117, u8 118, u8 119, u8 120, u8 121, u8 122]) (Int.toNat (((s.length : Int)) / 16))), u8 (bt ([u8 48, u8 49, u8 50, u8 51, u8 52, u8 53, u8 54, u8 55, u8 56, u8 57, u8 97, u8 98, u8 99, u8 100, u8 101, u8 102, u8 103, u8 104, u8 105, u8 106, u8 107, u8 108, u8 109, u8 110, u8 111, u8 112, u8 113, u8 114, u8 115, u8 116, u8 117, u8 118, u8 119, u8 120, u8 121, u8 122]) (Int.toNat (((s.length : Int)) % 16)))]) (.cons (isB8 (isX rfl) (by omega) (by omega)) (.cons (isB8 (isX rfl) (by omega) (by omega)) .nil)) (denX rfl)) ?_
  refine hcons (kCat (isX rfl) (isSx (l := [u8 13, u8 10]) 2 2573 rfl) (denX rfl) (by first | rfl | (simp only [List.append_assoc, List.cons_append, List.nil_append, List.append_nil]; done)) (by first | omega | (simp only [List.length_append, List.length_cons, List.length_nil, List.length_take, List.length_drop, List.length_replicate, Int.natCast_add] at *; omega))) ?_
  refine hcons (kCat (isX rfl) (isX rfl) (denX rfl) (by first | rfl | (simp only [List.append_assoc, List.cons_append, List.nil_append, List.append_nil]; done)) (by first | omega | (simp only [List.length_append, List.length_cons, List.length_nil, List.length_take, List.length_drop, List.length_replicate, Int.natCast_add] at *; omega))) ?_
  refine hcons (kCat (isX rfl) (isSx (l := [u8 13, u8 10]) 2 2573 rfl) (denX rfl) (by first | rfl | (simp only [List.append_assoc, List.cons_append, List.nil_append, List.append_nil]; done)) (by first | omega | (simp only [List.length_append, List.length_cons, List.length_nil, List.length_take, List.length_drop, List.length_replicate, Int.natCast_add] at *; omega))) ?_
  refine hcons (kEqS (isX rfl) (isSx (l := ([] : List UInt8)) 0 0 rfl) (by first | exact nilT (by first | omega | (simp only [List.length_append, List.length_cons, List.length_nil, List.length_take, List.length_drop, List.length_replicate, Int.natCast_add] at *; omega)) | exact nilF (by first | omega | (simp only [List.length_append, List.length_cons, List.length_nil, List.length_take, List.length_drop, List.length_replicate, Int.natCast_add] at *; omega)) | exact nilT' (by first | omega | (simp only [List.length_append, List.length_cons, List.length_nil, List.length_take, List.length_drop, List.length_replicate, Int.natCast_add] at *; omega)) | exact nilF' (by first | omega | (simp only [List.length_append, List.length_cons, List.length_nil, List.length_take, List.length_drop, List.length_replicate, Int.natCast_add] at *; omega)))) ?_
  exact hnil
theorem path4 (which : Int) (s : List UInt8) (b0 : 0 ≤ which) (b1 : which ≤ 255) (b2 : s.length ≤ 9223372036854775807) (h0 : ¬ (100 < (s.length : Int))) (h1 : ¬ ((s.length : Int) = 0)) (h2 : which % 4 = 3) (h4 : 16 ≤ (s.length : Int)) (w : World) (hl : laidE w) : Calls Tryd.prog 6 #[.int .u8 which, St' s] w fun e w' => e = .returned (.bool true) ∧ Go.AX.Below w.heap.size w w' := by
  obtain ⟨fi, hfi, hb⟩ : ∃ fi, tabk.fn.get 6 = some fi ∧ fi.body.isSome = true := ⟨_, rfl, by kernel_rfl⟩
  exact runP (tb := tab4) ((tabkOk (nuL (nu4 which s)) (one4 which s)).hyps (hyOk4 which s b0 b1 b2 h0 h1 h2 h4)) rfl hfi hb (fun e1 e6 => run4 e1 e6 ) (args := [.int .u8 which, St' s]) (by simp only [RelL, Rel]; exact ⟨_, _, rfl, rfl, ⟨_, _, rfl, rfl, rfl⟩⟩) w hl
def hy5 : List (HK × AV) := [(.len (.x 1), .x 2),
  (.bin .gtr (.x 2) (.i .i64 (.ofNat 100)), .b false),
  (.bin .eql (.x 1) (.s 0 0), .b true)]
noncomputable def tab5 : Tab := { tabk with hyp := hy5 }
theorem run5 (e1 : Nat) (e6 : Nat) : okB (call tab5 9000 6 [.x 0, .x 1] ⟨H0 e1 e6 , 7, 0, 0⟩) = true := by kernel_rfl
def nu5 (which : Int) (s : List UInt8) : List Value := [.int .u8 (which),
  St' s,
  .int .i64 ((s.length : Int))]
theorem one5 (which : Int) (s : List UInt8) : ∀ j, (nuL (nu5 which s) j).oneCell' = true := nuL_one (l := nu5 which s) rfl
set_option maxHeartbeats 2000000 in
theorem hyOk5 (which : Int) (s : List UInt8) (b0 : 0 ≤ which) (b1 : which ≤ 255) (b2 : s.length ≤ 9223372036854775807) (h0 : ¬ (100 < (s.length : Int))) (h1 : (s.length : Int) = 0) : ∀ k r, (k, r) ∈ hy5 → HOk (cx (nuL (nu5 which s)) (one5 which s) 7 laidE laidE_stab) k r := by
  unfold hy5
  refine hcons (kLenE (isX rfl) (denX rfl) (by first | omega | (simp only [List.length_append, List.length_cons, List.length_nil, List.length_take, List.length_drop, List.length_replicate, Int.natCast_add] at *; omega))) ?_
  refine hcons (kGt (isX rfl) (isZ (m := 100) rfl) (decide_eq_false (by omega))) ?_
  refine hcons (kEqS (isX rfl) (isSx (l := ([] : List UInt8)) 0 0 rfl) (by first | exact nilT (by first | omega | (simp only [List.length_append, List.length_cons, List.length_nil, List.length_take, List.length_drop, List.length_replicate, Int.natCast_add] at *; omega)) | exact nilF (by first | omega | (simp only [List.length_append, List.length_cons, List.length_nil, List.length_take, List.length_drop, List.length_replicate, Int.natCast_add] at *; omega)) | exact nilT' (by first | omega | (simp only [List.length_append, List.length_cons, List.length_nil, List.length_take, List.length_drop, List.length_replicate, Int.natCast_add] at *; omega)) | exact nilF' (by first | omega | (simp only [List.length_append, List.length_cons, List.length_nil, List.length_take, List.length_drop, List.length_replicate, Int.natCast_add] at *; omega)))) ?_
  exact hnil
theorem path5 (which : Int) (s : List UInt8) (b0 : 0 ≤ which) (b1 : which ≤ 255) (b2 : s.length ≤ 9223372036854775807) (h0 : ¬ (100 < (s.length : Int))) (h1 : (s.length : Int) = 0) (w : World) (hl : laidE w) : Calls Tryd.prog 6 #[.int .u8 which, St' s] w fun e w' => e = .returned (.bool true) ∧ Go.AX.Below w.heap.size w w' := by
  obtain ⟨fi, hfi, hb⟩ : ∃ fi, tabk.fn.get 6 = some fi ∧ fi.body.isSome = true := ⟨_, rfl, by kernel_rfl⟩
  exact runP (tb := tab5) ((tabkOk (nuL (nu5 which s)) (one5 which s)).hyps (hyOk5 which s b0 b1 b2 h0 h1)) rfl hfi hb (fun e1 e6 => run5 e1 e6 ) (args := [.int .u8 which, St' s]) (by simp only [RelL, Rel]; exact ⟨_, _, rfl, rfl, ⟨_, _, rfl, rfl, rfl⟩⟩) w hl
def hy6 : List (HK × AV) := [(.len (.x 1), .x 2),
  (.bin .gtr (.x 2) (.i .i64 (.ofNat 100)), .b true)]
noncomputable def tab6 : Tab := { tabk with hyp := hy6 }
theorem run6 (e1 : Nat) (e6 : Nat) : okB (call tab6 9000 6 [.x 0, .x 1] ⟨H0 e1 e6 , 7, 0, 0⟩) = true := by kernel_rfl
def nu6 (which : Int) (s : List UInt8) : List Value := [.int .u8 (which),
  St' s,
  .int .i64 ((s.length : Int))]
theorem one6 (which : Int) (s : List UInt8) : ∀ j, (nuL (nu6 which s) j).oneCell' = true := nuL_one (l := nu6 which s) rfl
set_option maxHeartbeats 2000000 in
theorem hyOk6 (which : Int) (s : List UInt8) (b0 : 0 ≤ which) (b1 : which ≤ 255) (b2 : s.length ≤ 9223372036854775807) (h0 : 100 < (s.length : Int)) : ∀ k r, (k, r) ∈ hy6 → HOk (cx (nuL (nu6 which s)) (one6 which s) 7 laidE laidE_stab) k r := by
  unfold hy6
  refine hcons (kLenE (isX rfl) (denX rfl) (by first | omega | (simp only [List.length_append, List.length_cons, List.length_nil, List.length_take, List.length_drop, List.length_replicate, Int.natCast_add] at *; omega))) ?_
  refine hcons (kGt (isX rfl) (isZ (m := 100) rfl) (decide_eq_true (by omega))) ?_
  exact hnil
theorem path6 (which : Int) (s : List UInt8) (b0 : 0 ≤ which) (b1 : which ≤ 255) (b2 : s.length ≤ 9223372036854775807) (h0 : 100 < (s.length : Int)) (w : World) (hl : laidE w) : Calls Tryd.prog 6 #[.int .u8 which, St' s] w fun e w' => e = .returned (.bool true) ∧ Go.AX.Below w.heap.size w w' := by
  obtain ⟨fi, hfi, hb⟩ : ∃ fi, tabk.fn.get 6 = some fi ∧ fi.body.isSome = true := ⟨_, rfl, by kernel_rfl⟩
  exact runP (tb := tab6) ((tabkOk (nuL (nu6 which s)) (one6 which s)).hyps (hyOk6 which s b0 b1 b2 h0)) rfl hfi hb (fun e1 e6 => run6 e1 e6 ) (args := [.int .u8 which, St' s]) (by simp only [RelL, Rel]; exact ⟨_, _, rfl, rfl, ⟨_, _, rfl, rfl, rfl⟩⟩) w hl
end Go.Proofs.YticlhkekkfelpaaDoor.replyBare
