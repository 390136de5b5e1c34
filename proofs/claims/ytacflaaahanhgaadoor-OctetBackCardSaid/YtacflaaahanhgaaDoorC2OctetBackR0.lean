/- A part of the proof: an interpreter of the model's own code on partly known states, and that what it answers is what the program answers. No condition of its own. -/
import Derived.Test.YtacflaaahanhgaaDoorC2OctetBackO
set_option maxRecDepth 100000
set_option linter.unusedVariables false
set_option linter.unusedSimpArgs false
namespace Go.Proofs.YtacflaaahanhgaaDoor.octetBack
open Go Go.AX Go.Proofs Go.Proofs.YtacflaaahanhgaaDoor
def hy0 : List (HK × AV) := [(.len (.x 0), .x 1),
  (.bin .gtr (.x 1) (.i .i64 (.ofNat 400)), .b true)]
noncomputable def tab0 : Tab := { tabk with hyp := hy0 }
theorem run0 : okB (call tab0 9000 4 [.x 0] ⟨H0 , 7, 0, 0⟩) = true := by kernel_rfl
def nu0 (s : List UInt8) : List Value := [St' s,
  .int .i64 ((s.length : Int))]
theorem one0 (s : List UInt8) : ∀ j, j < 1000000 → (nuL (nu0 s) j).oneCell' = true := fun j _ => nuL_one (l := nu0 s) rfl j
set_option maxHeartbeats 2000000 in
theorem hyOk0 (s : List UInt8) (b0 : s.length ≤ 9223372036854775807) (h0 : 400 < (s.length : Int)) : ∀ k r, (k, r) ∈ hy0 → HOk (cx (nuL (nu0 s)) (one0 s) 0 laidE laidE_stab) k r := by
  unfold hy0
  refine hcons (kLenE (isX rfl) (denX rfl) (by first | omega | (simp <;> omega))) ?_
  refine hcons (kGt (isX rfl) (isZ (m := 400) rfl) (decide_eq_true (by omega))) ?_
  exact hnil
theorem path0 (s : List UInt8) (b0 : s.length ≤ 9223372036854775807) (h0 : 400 < (s.length : Int)) (w : World) (hl : laidE w) : Calls Tryd.prog 4 #[St' s] w fun e w' => e = .returned (.bool true) ∧ Go.AX.Below (Go.AX.Fz.lt w.heap.size) w w' := by
  obtain ⟨fi, hfi, hb⟩ : ∃ fi, tabk.fn.get 4 = some fi ∧ fi.body.isSome = true := ⟨_, rfl, by kernel_rfl⟩
  exact runP (tb := tab0) ((tabkOk (nuL (nu0 s)) (one0 s)).hyps (hyOk0 s b0 h0)) rfl hfi hb (run0 ) (args := [St' s]) (by simp only [RelL, Rel]; exact ⟨_, _, rfl, rfl, rfl⟩) w hl
def hy1 : List (HK × AV) := [(.len (.x 0), .x 1),
  (.bin .gtr (.x 1) (.i .i64 (.ofNat 400)), .b false),
  (.call 27 [.x 2], .x 3),
  (.call 18 [.x 3], .tu [.x 4, .ni]),
  (.bin .eql (.x 4) (.x 2), .b true),
  (.call 22 [.x 2], .x 5),
  (.call 22 [.x 5], .x 6),
  (.bin .eql (.x 6) (.x 5), .b true),
  (.call 65 [.x 2, .s 2 2336], .x 7),
  (.call 65 [.x 7, .s 2 2336], .x 8),
  (.bin .eql (.x 8) (.x 7), .b true),
  (.bin .add (.s 1 32) (.x 2), .x 9),
  (.bin .add (.x 9) (.s 1 9), .x 10),
  (.call 65 [.x 10, .s 2 2336], .x 11),
  (.bin .eql (.x 11) (.x 7), .b true)]
noncomputable def tab1 : Tab := addLps ({ tabk with hyp := hy1 }) 4 fi4 [⟨6, 70, [(0, .x 0), (3, .i .i64 (.ofNat 0))], [], (.exit 0), [(0, .x 2)], some ⟨7, 7, 37, [], []⟩⟩]
theorem run1 : okB (call tab1 9000 4 [.x 0] ⟨H0 , 7, 0, 0⟩) = true := by kernel_rfl
def nu1 (s : List UInt8) : List Value := [St' s,
  .int .i64 ((s.length : Int)),
  St' s,
  St' (escS s),
  St' s,
  St' (lowS s),
  St' (lowS s),
  St' (trS s),
  St' (trS s),
  St' ([u8 32] ++ s),
  St' ([u8 32] ++ (s ++ [u8 9])),
  St' (trS s)]
theorem one1 (s : List UInt8) : ∀ j, j < 1000000 → (nuL (nu1 s) j).oneCell' = true := fun j _ => nuL_one (l := nu1 s) rfl j
set_option maxHeartbeats 2000000 in
theorem hyOk1 (s : List UInt8) (b0 : s.length ≤ 9223372036854775807) (h0 : ¬ (400 < (s.length : Int))) (h1 : ¬ (hasZ s = true)) : ∀ k r, (k, r) ∈ hy1 → HOk (cx (nuL (nu1 s)) (one1 s) 0 laidE laidE_stab) k r := by
  have hz : unS (escS s) = some s := unesc_esc s (by simpa using ‹¬ hasZ s = true›)
  have := escS_len s
  have : (lowS s).length = s.length := List.length_map ..
  have := trS_len s
  unfold hy1
  refine hcons (kLenE (isX rfl) (denX rfl) (by first | omega | (simp <;> omega))) ?_
  refine hcons (kGt (isX rfl) (isZ (m := 400) rfl) (decide_eq_false (by omega))) ?_
  refine hcons (hokEscape (s := s) (isX rfl) (denX rfl) (by first | omega | (simp only [List.length_append, List.length_cons, List.length_nil]; omega)) (by first | omega | (simp only [List.length_append, List.length_cons, List.length_nil]; omega))) ?_
  refine hcons (hokUnesc (s := (escS s)) (isX rfl) (by rw [if_neg (by rw [hz]; simp)]; exact denT2 (denX (by rw [hz]; rfl)) denNi) (by first | omega | (simp only [List.length_append, List.length_cons, List.length_nil]; omega)) (by first | omega | (simp only [List.length_append, List.length_cons, List.length_nil]; omega))) ?_
  refine hcons (kEqS (isX rfl) (isX rfl) (decide_eq_true rfl)) ?_
  refine hcons (hokLower (s := s) (isX rfl) (denX rfl) (by first | omega | (simp only [List.length_append, List.length_cons, List.length_nil]; omega)) (by first | omega | (simp only [List.length_append, List.length_cons, List.length_nil]; omega))) ?_
  refine hcons (hokLower (s := (lowS s)) (isX rfl) (denX (congrArg (fun l => St' l) (low_idem s).symm)) (by first | omega | (simp only [List.length_append, List.length_cons, List.length_nil]; omega)) (by first | omega | (simp only [List.length_append, List.length_cons, List.length_nil]; omega))) ?_
  refine hcons (kEqS (isX rfl) (isX rfl) (decide_eq_true rfl)) ?_
  refine hcons (hokTrim (s := s) (isX rfl) (isSx (l := [u8 32, u8 9]) 2 2336 rfl) (denX rfl) (by first | omega | (simp only [List.length_append, List.length_cons, List.length_nil]; omega)) (by first | omega | (simp only [List.length_append, List.length_cons, List.length_nil]; omega))) ?_
  refine hcons (hokTrim (s := (trS s)) (isX rfl) (isSx (l := [u8 32, u8 9]) 2 2336 rfl) (denX (congrArg (fun l => St' l) (tr_idem s).symm)) (by first | omega | (simp only [List.length_append, List.length_cons, List.length_nil]; omega)) (by first | omega | (simp only [List.length_append, List.length_cons, List.length_nil]; omega))) ?_
  refine hcons (kEqS (isX rfl) (isX rfl) (decide_eq_true rfl)) ?_
  refine hcons (kCat (isSx (l := [u8 32]) 1 32 rfl) (isX rfl) (denX rfl) (by first | rfl | (simp; done)) (by first | omega | (simp <;> omega))) ?_
  refine hcons (kCat (isX rfl) (isSx (l := [u8 9]) 1 9 rfl) (denX rfl) (by first | rfl | (simp; done)) (by first | omega | (simp <;> omega))) ?_
  refine hcons (hokTrim (s := ([u8 32] ++ (s ++ [u8 9]))) (isX rfl) (isSx (l := [u8 32, u8 9]) 2 2336 rfl) (denX (congrArg (fun l => St' l) (tr_pad s).symm)) (by first | omega | (simp only [List.length_append, List.length_cons, List.length_nil]; omega)) (by first | omega | (simp only [List.length_append, List.length_cons, List.length_nil]; omega))) ?_
  refine hcons (kEqS (isX rfl) (isX rfl) (decide_eq_true rfl)) ?_
  exact hnil
theorem path1 (s : List UInt8) (b0 : s.length ≤ 9223372036854775807) (h0 : ¬ (400 < (s.length : Int))) (h1 : ¬ (hasZ s = true)) (w : World) (hl : laidE w) : Calls Tryd.prog 4 #[St' s] w fun e w' => e = .returned (.bool true) ∧ Go.AX.Below (Go.AX.Fz.lt w.heap.size) w w' := by
  have hz : unS (escS s) = some s := unesc_esc s (by simpa using ‹¬ hasZ s = true›)
  have := escS_len s
  have : (lowS s).length = s.length := List.length_map ..
  have := trS_len s
  obtain ⟨fi, hfi, hb⟩ : ∃ fi, tab1.fn.get 4 = some fi ∧ fi.body.isSome = true := ⟨_, (get_lps (by omega)), by show fi4.body.isSome = true; rw [fi4_body]; rfl⟩
  exact runP (tb := tab1) (AllOk.lp1 ((tabkOk (nuL (nu1 s)) (one1 s)).hyps (hyOk1 s b0 h0 h1)) (by omega) fi4_at fi4_body (lfCons ⟨0, keyBk, lfOkBk_0 (l := ⟨6, 70, [(0, .x 0), (3, .i .i64 (.ofNat 0))], [], (.exit 0), [(0, .x 2)], some ⟨7, 7, 37, [], []⟩⟩) (h := ⟨7, 7, 37, [], []⟩) s (by omega) (by first | assumption | simpa using ‹¬ hasZ s = true›) (0, (0 : Int)) (show InvBk s (0, (0 : Int)) from (show (0 ≤ (0 : Int)) ∧ ((0 : Int) ≤ (s.length : Int)) ∧ (hasZ (s.drop (0 : Int).toNat) = hasZ s) ∧ (0 < 1) from ⟨by omega, by omega, by simp, by omega⟩)) rfl (by kernel_rfl) (th0 := [(0, .x 0), (1, .i .i64 (.ofNat 0))]) (sg0 := []) (fun X => thCons (show Is _ (.x 0) (St' s) from isTo (v := St' s) (isX rfl) (by first | rfl | (simp; done))) (thCons (show Is _ (.i .i64 (.ofNat 0)) (.int .i64 ((0 : Int))) from isTo (v := .int .i64 0) (isI _ _) (by first | rfl | (congr 1; omega))) (thNil))) (by kernel_rfl) (thx := [(2, .x 0)]) (thCons (show Is _ (.x 0) (St' s) from isTo (v := St' s) (isX rfl) (by first | rfl | (congr 1; omega))) (thNil)) (by kernel_rfl)⟩ lfNil)) rfl hfi hb (run1 ) (args := [St' s]) (by simp only [RelL, Rel]; exact ⟨_, _, rfl, rfl, rfl⟩) w hl
def hy2 : List (HK × AV) := [(.len (.x 0), .x 1),
  (.bin .gtr (.x 1) (.i .i64 (.ofNat 400)), .b false)]
noncomputable def tab2 : Tab := addLps ({ tabk with hyp := hy2 }) 4 fi4 [⟨6, 70, [(0, .x 0), (3, .i .i64 (.ofNat 0))], [], .ret, [(2, .b true)], some ⟨7, 7, 37, [], []⟩⟩]
theorem run2 : okB (call tab2 9000 4 [.x 0] ⟨H0 , 7, 0, 0⟩) = true := by kernel_rfl
def nu2 (s : List UInt8) : List Value := [St' s,
  .int .i64 ((s.length : Int))]
theorem one2 (s : List UInt8) : ∀ j, j < 1000000 → (nuL (nu2 s) j).oneCell' = true := fun j _ => nuL_one (l := nu2 s) rfl j
set_option maxHeartbeats 2000000 in
theorem hyOk2 (s : List UInt8) (b0 : s.length ≤ 9223372036854775807) (h0 : ¬ (400 < (s.length : Int))) (h1 : hasZ s = true) : ∀ k r, (k, r) ∈ hy2 → HOk (cx (nuL (nu2 s)) (one2 s) 0 laidE laidE_stab) k r := by
  unfold hy2
  refine hcons (kLenE (isX rfl) (denX rfl) (by first | omega | (simp <;> omega))) ?_
  refine hcons (kGt (isX rfl) (isZ (m := 400) rfl) (decide_eq_false (by omega))) ?_
  exact hnil
theorem path2 (s : List UInt8) (b0 : s.length ≤ 9223372036854775807) (h0 : ¬ (400 < (s.length : Int))) (h1 : hasZ s = true) (w : World) (hl : laidE w) : Calls Tryd.prog 4 #[St' s] w fun e w' => e = .returned (.bool true) ∧ Go.AX.Below (Go.AX.Fz.lt w.heap.size) w w' := by
  obtain ⟨fi, hfi, hb⟩ : ∃ fi, tab2.fn.get 4 = some fi ∧ fi.body.isSome = true := ⟨_, (get_lps (by omega)), by show fi4.body.isSome = true; rw [fi4_body]; rfl⟩
  exact runP (tb := tab2) (AllOk.lp1 ((tabkOk (nuL (nu2 s)) (one2 s)).hyps (hyOk2 s b0 h0 h1)) (by omega) fi4_at fi4_body (lfCons ⟨0, keyBk, lfOkBk_1 (l := ⟨6, 70, [(0, .x 0), (3, .i .i64 (.ofNat 0))], [], .ret, [(2, .b true)], some ⟨7, 7, 37, [], []⟩⟩) (h := ⟨7, 7, 37, [], []⟩) s (by omega) (by first | assumption | simpa using ‹¬ hasZ s = true›) (0, (0 : Int)) (show InvBk s (0, (0 : Int)) from (show (0 ≤ (0 : Int)) ∧ ((0 : Int) ≤ (s.length : Int)) ∧ (hasZ (s.drop (0 : Int).toNat) = hasZ s) ∧ (0 < 1) from ⟨by omega, by omega, by simp, by omega⟩)) rfl (by kernel_rfl) (th0 := [(0, .x 0), (1, .i .i64 (.ofNat 0))]) (sg0 := []) (fun X => thCons (show Is _ (.x 0) (St' s) from isTo (v := St' s) (isX rfl) (by first | rfl | (simp; done))) (thCons (show Is _ (.i .i64 (.ofNat 0)) (.int .i64 ((0 : Int))) from isTo (v := .int .i64 0) (isI _ _) (by first | rfl | (congr 1; omega))) (thNil))) (by kernel_rfl) (thx := []) (thNil) (by kernel_rfl)⟩ lfNil)) rfl hfi hb (run2 ) (args := [St' s]) (by simp only [RelL, Rel]; exact ⟨_, _, rfl, rfl, rfl⟩) w hl
end Go.Proofs.YtacflaaahanhgaaDoor.octetBack
