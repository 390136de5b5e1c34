/- A part of the proof: an interpreter of the model's own code on partly known states, and that what it answers is what the program answers. No condition of its own. -/
import Derived.Test.YticlhkekkfelpaaB6LaneEndsO
set_option maxRecDepth 100000
set_option linter.unusedVariables false
set_option linter.unusedSimpArgs false
namespace Go.Proofs.Yticlhkekkfelpaa.laneEnds
open Go Go.AX Go.Proofs Go.Proofs.Yticlhkekkfelpaa
def hy0 : List (HK × AV) := [(.len (.x 1), .x 2),
  (.bin .gtr (.x 2) (.i .i64 (.ofNat 100)), .b false),
  (.bin .eql (.x 1) (.s 0 0), .b false),
  (.bin .rem (.x 0) (.i .u8 (.ofNat 2)), .i .u8 (.ofNat 0)),
  (.bin .eql (.x 1) (.x 1), .b true)]
noncomputable def tab0 : Tab := { tabk with hyp := hy0 }
theorem run0 : okB (call tab0 9000 4 [.x 0, .x 1] ⟨H0 , 1, 0, 0⟩) = true := by kernel_rfl
def nu0 (which : Int) (s : List UInt8) : List Value := [.int .u8 (which),
  St' s,
  .int .i64 ((s.length : Int))]
theorem one0 (which : Int) (s : List UInt8) : ∀ j, (nuL (nu0 which s) j).oneCell' = true := nuL_one (l := nu0 which s) rfl
set_option maxHeartbeats 2000000 in
theorem hyOk0 (which : Int) (s : List UInt8) (b0 : 0 ≤ which) (b1 : which ≤ 255) (b2 : s.length ≤ 9223372036854775807) (h0 : ¬ (100 < (s.length : Int))) (h1 : ¬ ((s.length : Int) = 0)) (h2 : which % 2 = 0) : ∀ k r, (k, r) ∈ hy0 → HOk (cx (nuL (nu0 which s)) (one0 which s) 0 laidE laidE_stab) k r := by
  unfold hy0
  refine hcons (kLenE (isX rfl) (denX rfl) (by first | omega | (simp only [List.length_append, List.length_cons, List.length_nil, List.length_take, List.length_drop, List.length_replicate, Int.natCast_add] at *; omega))) ?_
  refine hcons (kGt (isX rfl) (isZ (m := 100) rfl) (decide_eq_false (by omega))) ?_
  refine hcons (kEqS (isX rfl) (isSx (l := ([] : List UInt8)) 0 0 rfl) (by first | exact nilT (by first | omega | (simp only [List.length_append, List.length_cons, List.length_nil, List.length_take, List.length_drop, List.length_replicate, Int.natCast_add] at *; omega)) | exact nilF (by first | omega | (simp only [List.length_append, List.length_cons, List.length_nil, List.length_take, List.length_drop, List.length_replicate, Int.natCast_add] at *; omega)) | exact nilT' (by first | omega | (simp only [List.length_append, List.length_cons, List.length_nil, List.length_take, List.length_drop, List.length_replicate, Int.natCast_add] at *; omega)) | exact nilF' (by first | omega | (simp only [List.length_append, List.length_cons, List.length_nil, List.length_take, List.length_drop, List.length_replicate, Int.natCast_add] at *; omega)))) ?_
  refine hcons (kRem (isX rfl) (isZ (m := 2) rfl) (denZ (m := 0) rfl) (by omega) (by omega) (by omega)) ?_
  refine hcons (kEqS (isX rfl) (isX rfl) (decide_eq_true rfl)) ?_
  exact hnil
theorem path0 (which : Int) (s : List UInt8) (b0 : 0 ≤ which) (b1 : which ≤ 255) (b2 : s.length ≤ 9223372036854775807) (h0 : ¬ (100 < (s.length : Int))) (h1 : ¬ ((s.length : Int) = 0)) (h2 : which % 2 = 0) (w : World) (hl : laidE w) : Calls Try.prog 4 #[.int .u8 which, St' s] w fun e w' => e = .returned (.bool true) ∧ Go.AX.Below w.heap.size w w' := by
  obtain ⟨fi, hfi, hb⟩ : ∃ fi, tabk.fn.get 4 = some fi ∧ fi.body.isSome = true := ⟨_, rfl, by kernel_rfl⟩
  exact runP (tb := tab0) ((tabkOk (nuL (nu0 which s)) (one0 which s)).hyps (hyOk0 which s b0 b1 b2 h0 h1 h2)) rfl hfi hb (run0 ) (args := [.int .u8 which, St' s]) (by simp only [RelL, Rel]; exact ⟨_, _, rfl, rfl, ⟨_, _, rfl, rfl, rfl⟩⟩) w hl
def hy1 : List (HK × AV) := [(.len (.x 1), .x 2),
  (.bin .gtr (.x 2) (.i .i64 (.ofNat 100)), .b false),
  (.bin .eql (.x 1) (.s 0 0), .b false),
  (.bin .rem (.x 0) (.i .u8 (.ofNat 2)), .i .u8 (.ofNat 1)),
  (.bin .eql (.x 1) (.x 1), .b true)]
noncomputable def tab1 : Tab := { tabk with hyp := hy1 }
theorem run1 : okB (call tab1 9000 4 [.x 0, .x 1] ⟨H0 , 1, 0, 0⟩) = true := by kernel_rfl
def nu1 (which : Int) (s : List UInt8) : List Value := [.int .u8 (which),
  St' s,
  .int .i64 ((s.length : Int))]
theorem one1 (which : Int) (s : List UInt8) : ∀ j, (nuL (nu1 which s) j).oneCell' = true := nuL_one (l := nu1 which s) rfl
set_option maxHeartbeats 2000000 in
theorem hyOk1 (which : Int) (s : List UInt8) (b0 : 0 ≤ which) (b1 : which ≤ 255) (b2 : s.length ≤ 9223372036854775807) (h0 : ¬ (100 < (s.length : Int))) (h1 : ¬ ((s.length : Int) = 0)) (h2 : which % 2 = 1) : ∀ k r, (k, r) ∈ hy1 → HOk (cx (nuL (nu1 which s)) (one1 which s) 0 laidE laidE_stab) k r := by
  unfold hy1
  refine hcons (kLenE (isX rfl) (denX rfl) (by first | omega | (simp only [List.length_append, List.length_cons, List.length_nil, List.length_take, List.length_drop, List.length_replicate, Int.natCast_add] at *; omega))) ?_
  refine hcons (kGt (isX rfl) (isZ (m := 100) rfl) (decide_eq_false (by omega))) ?_
  refine hcons (kEqS (isX rfl) (isSx (l := ([] : List UInt8)) 0 0 rfl) (by first | exact nilT (by first | omega | (simp only [List.length_append, List.length_cons, List.length_nil, List.length_take, List.length_drop, List.length_replicate, Int.natCast_add] at *; omega)) | exact nilF (by first | omega | (simp only [List.length_append, List.length_cons, List.length_nil, List.length_take, List.length_drop, List.length_replicate, Int.natCast_add] at *; omega)) | exact nilT' (by first | omega | (simp only [List.length_append, List.length_cons, List.length_nil, List.length_take, List.length_drop, List.length_replicate, Int.natCast_add] at *; omega)) | exact nilF' (by first | omega | (simp only [List.length_append, List.length_cons, List.length_nil, List.length_take, List.length_drop, List.length_replicate, Int.natCast_add] at *; omega)))) ?_
  refine hcons (kRem (isX rfl) (isZ (m := 2) rfl) (denZ (m := 1) rfl) (by omega) (by omega) (by omega)) ?_
  refine hcons (kEqS (isX rfl) (isX rfl) (decide_eq_true rfl)) ?_
  exact hnil
theorem path1 (which : Int) (s : List UInt8) (b0 : 0 ≤ which) (b1 : which ≤ 255) (b2 : s.length ≤ 9223372036854775807) (h0 : ¬ (100 < (s.length : Int))) (h1 : ¬ ((s.length : Int) = 0)) (h2 : which % 2 = 1) (w : World) (hl : laidE w) : Calls Try.prog 4 #[.int .u8 which, St' s] w fun e w' => e = .returned (.bool true) ∧ Go.AX.Below w.heap.size w w' := by
  obtain ⟨fi, hfi, hb⟩ : ∃ fi, tabk.fn.get 4 = some fi ∧ fi.body.isSome = true := ⟨_, rfl, by kernel_rfl⟩
  exact runP (tb := tab1) ((tabkOk (nuL (nu1 which s)) (one1 which s)).hyps (hyOk1 which s b0 b1 b2 h0 h1 h2)) rfl hfi hb (run1 ) (args := [.int .u8 which, St' s]) (by simp only [RelL, Rel]; exact ⟨_, _, rfl, rfl, ⟨_, _, rfl, rfl, rfl⟩⟩) w hl
def hy2 : List (HK × AV) := [(.len (.x 1), .x 2),
  (.bin .gtr (.x 2) (.i .i64 (.ofNat 100)), .b false),
  (.bin .eql (.x 1) (.s 0 0), .b true)]
noncomputable def tab2 : Tab := { tabk with hyp := hy2 }
theorem run2 : okB (call tab2 9000 4 [.x 0, .x 1] ⟨H0 , 1, 0, 0⟩) = true := by kernel_rfl
def nu2 (which : Int) (s : List UInt8) : List Value := [.int .u8 (which),
  St' s,
  .int .i64 ((s.length : Int))]
theorem one2 (which : Int) (s : List UInt8) : ∀ j, (nuL (nu2 which s) j).oneCell' = true := nuL_one (l := nu2 which s) rfl
set_option maxHeartbeats 2000000 in
theorem hyOk2 (which : Int) (s : List UInt8) (b0 : 0 ≤ which) (b1 : which ≤ 255) (b2 : s.length ≤ 9223372036854775807) (h0 : ¬ (100 < (s.length : Int))) (h1 : (s.length : Int) = 0) : ∀ k r, (k, r) ∈ hy2 → HOk (cx (nuL (nu2 which s)) (one2 which s) 0 laidE laidE_stab) k r := by
  unfold hy2
  refine hcons (kLenE (isX rfl) (denX rfl) (by first | omega | (simp only [List.length_append, List.length_cons, List.length_nil, List.length_take, List.length_drop, List.length_replicate, Int.natCast_add] at *; omega))) ?_
  refine hcons (kGt (isX rfl) (isZ (m := 100) rfl) (decide_eq_false (by omega))) ?_
  refine hcons (kEqS (isX rfl) (isSx (l := ([] : List UInt8)) 0 0 rfl) (by first | exact nilT (by first | omega | (simp only [List.length_append, List.length_cons, List.length_nil, List.length_take, List.length_drop, List.length_replicate, Int.natCast_add] at *; omega)) | exact nilF (by first | omega | (simp only [List.length_append, List.length_cons, List.length_nil, List.length_take, List.length_drop, List.length_replicate, Int.natCast_add] at *; omega)) | exact nilT' (by first | omega | (simp only [List.length_append, List.length_cons, List.length_nil, List.length_take, List.length_drop, List.length_replicate, Int.natCast_add] at *; omega)) | exact nilF' (by first | omega | (simp only [List.length_append, List.length_cons, List.length_nil, List.length_take, List.length_drop, List.length_replicate, Int.natCast_add] at *; omega)))) ?_
  exact hnil
theorem path2 (which : Int) (s : List UInt8) (b0 : 0 ≤ which) (b1 : which ≤ 255) (b2 : s.length ≤ 9223372036854775807) (h0 : ¬ (100 < (s.length : Int))) (h1 : (s.length : Int) = 0) (w : World) (hl : laidE w) : Calls Try.prog 4 #[.int .u8 which, St' s] w fun e w' => e = .returned (.bool true) ∧ Go.AX.Below w.heap.size w w' := by
  obtain ⟨fi, hfi, hb⟩ : ∃ fi, tabk.fn.get 4 = some fi ∧ fi.body.isSome = true := ⟨_, rfl, by kernel_rfl⟩
  exact runP (tb := tab2) ((tabkOk (nuL (nu2 which s)) (one2 which s)).hyps (hyOk2 which s b0 b1 b2 h0 h1)) rfl hfi hb (run2 ) (args := [.int .u8 which, St' s]) (by simp only [RelL, Rel]; exact ⟨_, _, rfl, rfl, ⟨_, _, rfl, rfl, rfl⟩⟩) w hl
def hy3 : List (HK × AV) := [(.len (.x 1), .x 2),
  (.bin .gtr (.x 2) (.i .i64 (.ofNat 100)), .b true)]
noncomputable def tab3 : Tab := { tabk with hyp := hy3 }
theorem run3 : okB (call tab3 9000 4 [.x 0, .x 1] ⟨H0 , 1, 0, 0⟩) = true := by kernel_rfl
def nu3 (which : Int) (s : List UInt8) : List Value := [.int .u8 (which),
  St' s,
  .int .i64 ((s.length : Int))]
theorem one3 (which : Int) (s : List UInt8) : ∀ j, (nuL (nu3 which s) j).oneCell' = true := nuL_one (l := nu3 which s) rfl
set_option maxHeartbeats 2000000 in
theorem hyOk3 (which : Int) (s : List UInt8) (b0 : 0 ≤ which) (b1 : which ≤ 255) (b2 : s.length ≤ 9223372036854775807) (h0 : 100 < (s.length : Int)) : ∀ k r, (k, r) ∈ hy3 → HOk (cx (nuL (nu3 which s)) (one3 which s) 0 laidE laidE_stab) k r := by
  unfold hy3
  refine hcons (kLenE (isX rfl) (denX rfl) (by first | omega | (simp only [List.length_append, List.length_cons, List.length_nil, List.length_take, List.length_drop, List.length_replicate, Int.natCast_add] at *; omega))) ?_
  refine hcons (kGt (isX rfl) (isZ (m := 100) rfl) (decide_eq_true (by omega))) ?_
  exact hnil
theorem path3 (which : Int) (s : List UInt8) (b0 : 0 ≤ which) (b1 : which ≤ 255) (b2 : s.length ≤ 9223372036854775807) (h0 : 100 < (s.length : Int)) (w : World) (hl : laidE w) : Calls Try.prog 4 #[.int .u8 which, St' s] w fun e w' => e = .returned (.bool true) ∧ Go.AX.Below w.heap.size w w' := by
  obtain ⟨fi, hfi, hb⟩ : ∃ fi, tabk.fn.get 4 = some fi ∧ fi.body.isSome = true := ⟨_, rfl, by kernel_rfl⟩
  exact runP (tb := tab3) ((tabkOk (nuL (nu3 which s)) (one3 which s)).hyps (hyOk3 which s b0 b1 b2 h0)) rfl hfi hb (run3 ) (args := [.int .u8 which, St' s]) (by simp only [RelL, Rel]; exact ⟨_, _, rfl, rfl, ⟨_, _, rfl, rfl, rfl⟩⟩) w hl
end Go.Proofs.Yticlhkekkfelpaa.laneEnds
