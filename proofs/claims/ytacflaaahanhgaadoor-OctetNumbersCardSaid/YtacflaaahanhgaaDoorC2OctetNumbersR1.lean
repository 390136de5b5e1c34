/- A part of the proof: an interpreter of the model's own code on partly known states, and that what it answers is what the program answers. No condition of its own. -/
import Derived.Test.YtacflaaahanhgaaDoorC2OctetNumbersO
set_option maxRecDepth 100000
set_option linter.unusedVariables false
set_option linter.unusedSimpArgs false
namespace Go.Proofs.YtacflaaahanhgaaDoor.octetNumbers
open Go Go.AX Go.Proofs Go.Proofs.YtacflaaahanhgaaDoor
def hy8 : List (HK × AV) := [(.bin .rem (.x 0) (.i .u32 (.ofNat 10000)), .x 2),
  (.conv 3 (.x 2), .x 3),
  (.bin .rem (.x 1) (.i .u8 (.ofNat 8)), .i .u8 (.ofNat 4)),
  (.bin .add (.s 1 48) (.x 4), .x 6),
  (.bin .add (.s 1 48) (.x 5), .x 7),
  (.bin .add (.s 1 48) (.x 6), .x 8),
  (.bin .add (.s 1 48) (.x 7), .x 9),
  (.bin .add (.s 1 48) (.x 8), .x 10),
  (.bin .add (.s 1 48) (.x 9), .x 11),
  (.bin .add (.s 1 48) (.x 10), .x 12),
  (.bin .add (.s 1 48) (.x 11), .x 13),
  (.call 55 [.x 12, .i .i64 (.ofNat 10), .i .i64 (.ofNat 9)], .tu [.x 14, .b true]),
  (.call 55 [.x 13, .i .i64 (.ofNat 16), .i .i64 (.ofNat 7)], .tu [.x 15, .b true]),
  (.len (.x 12), .x 16),
  (.bin .leq (.x 16) (.i .i64 (.ofNat 9)), .b true),
  (.bin .eql (.x 14) (.x 3), .b true),
  (.len (.x 13), .x 17),
  (.bin .leq (.x 17) (.i .i64 (.ofNat 7)), .b true),
  (.bin .eql (.x 15) (.x 3), .b true)]
noncomputable def tab8 : Tab := addLps ({ tabk with hyp := hy8 }) 5 fi5 [(lfLd (.s 0 0) (.x 3) (.x 4)), (lfLn (.s 0 0) (.x 3) (.b false) (.x 5))]
theorem run8 : okB (call tab8 9000 5 [.x 0, .x 1, .b false] ⟨H0 , 7, 0, 0⟩) = true := by kernel_rfl
def nu8 (n : Int) (zeros : Int) : List Value := [.int .u32 (n),
  .int .u8 (zeros),
  .int .u32 (n % 10000),
  .int .i64 ((n % 10000)),
  St' (digs 10 false (n % 10000)),
  St' (digs 16 false (n % 10000)),
  St' ([u8 48] ++ (digs 10 false (n % 10000))),
  St' ([u8 48] ++ (digs 16 false (n % 10000))),
  St' ([u8 48, u8 48] ++ (digs 10 false (n % 10000))),
  St' ([u8 48, u8 48] ++ (digs 16 false (n % 10000))),
  St' ([u8 48, u8 48, u8 48] ++ (digs 10 false (n % 10000))),
  St' ([u8 48, u8 48, u8 48] ++ (digs 16 false (n % 10000))),
  St' ([u8 48, u8 48, u8 48, u8 48] ++ (digs 10 false (n % 10000))),
  St' ([u8 48, u8 48, u8 48, u8 48] ++ (digs 16 false (n % 10000))),
  .int .i64 (valF 10 ([u8 48, u8 48, u8 48, u8 48] ++ (digs 10 false (n % 10000))) 0),
  .int .i64 (valF 16 ([u8 48, u8 48, u8 48, u8 48] ++ (digs 16 false (n % 10000))) 0),
  .int .i64 (((digs 10 false (n % 10000)).length : Int) + 4),
  .int .i64 (((digs 16 false (n % 10000)).length : Int) + 4)]
theorem one8 (n : Int) (zeros : Int) : ∀ j, j < 1000000 → (nuL (nu8 n zeros) j).oneCell' = true := fun j _ => nuL_one (l := nu8 n zeros) rfl j
set_option maxHeartbeats 2000000 in
theorem hyOk8 (n : Int) (zeros : Int) (b0 : 0 ≤ n) (b1 : n ≤ 4294967295) (b2 : 0 ≤ zeros) (b3 : zeros ≤ 255) (h0 : zeros % 8 = 4) (h2 : ¬ (7 < ((digs 16 false (n % 10000)).length : Int) + 4)) : ∀ k r, (k, r) ∈ hy8 → HOk (cx (nuL (nu8 n zeros)) (one8 n zeros) 0 laidE laidE_stab) k r := by
  have := digs_bd (B := 10) (big := false) (n % 10000)
  have := digs_dec4 (b := false) (k := n % 10000) (by omega) (by omega)
  have := digs_bd (B := 16) (big := false) (n % 10000)
  have := digs_hex4 (b := false) (k := n % 10000) (by omega) (by omega)
  have : valF 10 ([u8 48, u8 48, u8 48, u8 48] ++ (digs 10 false (n % 10000))) 0 = n % 10000 := val_dz (big := false) (.inl rfl) (k := n % 10000) (by omega) (by omega) 4
  have : valF 16 ([u8 48, u8 48, u8 48, u8 48] ++ (digs 16 false (n % 10000))) 0 = n % 10000 := val_dz (big := false) (.inr rfl) (k := n % 10000) (by omega) (by omega) 4
  unfold hy8
  refine hcons (kRem (isX rfl) (isZ (m := 10000) rfl) (denX rfl) (by omega) (by omega) rfl) ?_
  refine hcons (kConvF (isX rfl) tu3 (denX rfl) (fI64 (by omega) (by omega))) ?_
  refine hcons (kRem (isX rfl) (isZ (m := 8) rfl) (denZ (m := 4) rfl) (by omega) (by omega) (by omega)) ?_
  refine hcons (kCat (isSx (l := [u8 48]) 1 48 rfl) (isX rfl) (denX rfl) (by first | rfl | (simp; done)) (by first | omega | (simp <;> omega))) ?_
  refine hcons (kCat (isSx (l := [u8 48]) 1 48 rfl) (isX rfl) (denX rfl) (by first | rfl | (simp; done)) (by first | omega | (simp <;> omega))) ?_
  refine hcons (kCat (isSx (l := [u8 48]) 1 48 rfl) (isX rfl) (denX rfl) (by first | rfl | (simp; done)) (by first | omega | (simp <;> omega))) ?_
  refine hcons (kCat (isSx (l := [u8 48]) 1 48 rfl) (isX rfl) (denX rfl) (by first | rfl | (simp; done)) (by first | omega | (simp <;> omega))) ?_
  refine hcons (kCat (isSx (l := [u8 48]) 1 48 rfl) (isX rfl) (denX rfl) (by first | rfl | (simp; done)) (by first | omega | (simp <;> omega))) ?_
  refine hcons (kCat (isSx (l := [u8 48]) 1 48 rfl) (isX rfl) (denX rfl) (by first | rfl | (simp; done)) (by first | omega | (simp <;> omega))) ?_
  refine hcons (kCat (isSx (l := [u8 48]) 1 48 rfl) (isX rfl) (denX rfl) (by first | rfl | (simp; done)) (by first | omega | (simp <;> omega))) ?_
  refine hcons (kCat (isSx (l := [u8 48]) 1 48 rfl) (isX rfl) (denX rfl) (by first | rfl | (simp; done)) (by first | omega | (simp <;> omega))) ?_
  refine hcons (hokNum10 (s := ([u8 48, u8 48, u8 48, u8 48] ++ (digs 10 false (n % 10000)))) (isX rfl) (isI .i64 10) (isI .i64 9) (denT2 (denX rfl) (denB true)) (by first | omega | (simp only [List.length_append, List.length_cons, List.length_nil]; omega)) (by first | omega | (simp only [List.length_append, List.length_cons, List.length_nil]; omega)) (by first | omega | (simp only [List.length_append, List.length_cons, List.length_nil]; omega)) (okD_dz (big := false) (.inl rfl) 4 (n % 10000))) ?_
  refine hcons (hokNum16 (s := ([u8 48, u8 48, u8 48, u8 48] ++ (digs 16 false (n % 10000)))) (isX rfl) (isI .i64 16) (isI .i64 7) (denT2 (denX rfl) (denB true)) (by first | omega | (simp only [List.length_append, List.length_cons, List.length_nil]; omega)) (by first | omega | (simp only [List.length_append, List.length_cons, List.length_nil]; omega)) (by first | omega | (simp only [List.length_append, List.length_cons, List.length_nil]; omega)) (okD_dz (big := false) (.inr rfl) 4 (n % 10000))) ?_
  refine hcons (kLenE (isX rfl) (denX rfl) (by first | omega | (simp <;> omega))) ?_
  refine hcons (kLe (isX rfl) (isZ (m := 9) rfl) (decide_eq_true (by omega))) ?_
  refine hcons (kEqI (isX rfl) (isX rfl) (decide_eq_true (by omega))) ?_
  refine hcons (kLenE (isX rfl) (denX rfl) (by first | omega | (simp <;> omega))) ?_
  refine hcons (kLe (isX rfl) (isZ (m := 7) rfl) (decide_eq_true (by omega))) ?_
  refine hcons (kEqI (isX rfl) (isX rfl) (decide_eq_true (by omega))) ?_
  exact hnil
theorem path8 (n : Int) (zeros : Int) (b0 : 0 ≤ n) (b1 : n ≤ 4294967295) (b2 : 0 ≤ zeros) (b3 : zeros ≤ 255) (h0 : zeros % 8 = 4) (h2 : ¬ (7 < ((digs 16 false (n % 10000)).length : Int) + 4)) (w : World) (hl : laidE w) : Calls Tryd.prog 5 #[.int .u32 n, .int .u8 zeros, .bool false] w fun e w' => e = .returned (.bool true) ∧ Go.AX.Below (Go.AX.Fz.lt w.heap.size) w w' := by
  have := digs_bd (B := 10) (big := false) (n % 10000)
  have := digs_dec4 (b := false) (k := n % 10000) (by omega) (by omega)
  have := digs_bd (B := 16) (big := false) (n % 10000)
  have := digs_hex4 (b := false) (k := n % 10000) (by omega) (by omega)
  have : valF 10 ([u8 48, u8 48, u8 48, u8 48] ++ (digs 10 false (n % 10000))) 0 = n % 10000 := val_dz (big := false) (.inl rfl) (k := n % 10000) (by omega) (by omega) 4
  have : valF 16 ([u8 48, u8 48, u8 48, u8 48] ++ (digs 16 false (n % 10000))) 0 = n % 10000 := val_dz (big := false) (.inr rfl) (k := n % 10000) (by omega) (by omega) 4
  obtain ⟨fi, hfi, hb⟩ : ∃ fi, tab8.fn.get 5 = some fi ∧ fi.body.isSome = true := ⟨_, (get_lps (by omega)), by show fi5.body.isSome = true; rw [fi5_body]; rfl⟩
  exact runP (tb := tab8) (AllOk.lp1 ((tabkOk (nuL (nu8 n zeros)) (one8 n zeros)).hyps (hyOk8 n zeros b0 b1 b2 b3 h0 h2)) (by omega) fi5_at fi5_body (lfCons ⟨0, keyLd, lfOkLd (T := (digs 10 false (n % 10000))) (f := 10002) (x := n % 10000) (s := []) (isSx (l := ([] : List UInt8)) 0 0 rfl) (isX rfl) (denX rfl) (by omega) (by omega) (fun _ => by omega) rfl (by simp)⟩ (lfCons ⟨1, keyLn, lfOkLn (T := (digs 16 false (n % 10000))) (f := 10002) (x := n % 10000) (s := []) (isSx (l := ([] : List UInt8)) 0 0 rfl) (isX rfl) (isB false) (denX rfl) (by omega) (by omega) (fun _ => by omega) rfl (by simp)⟩ lfNil))) rfl hfi hb (run8 ) (args := [.int .u32 n, .int .u8 zeros, .bool false]) (by simp only [RelL, Rel]; exact ⟨_, _, rfl, rfl, ⟨_, _, rfl, rfl, ⟨_, _, rfl, rfl, rfl⟩⟩⟩) w hl
def hy9 : List (HK × AV) := [(.bin .rem (.x 0) (.i .u32 (.ofNat 10000)), .x 2),
  (.conv 3 (.x 2), .x 3),
  (.bin .rem (.x 1) (.i .u8 (.ofNat 8)), .i .u8 (.ofNat 4)),
  (.bin .add (.s 1 48) (.x 4), .x 6),
  (.bin .add (.s 1 48) (.x 5), .x 7),
  (.bin .add (.s 1 48) (.x 6), .x 8),
  (.bin .add (.s 1 48) (.x 7), .x 9),
  (.bin .add (.s 1 48) (.x 8), .x 10),
  (.bin .add (.s 1 48) (.x 9), .x 11),
  (.bin .add (.s 1 48) (.x 10), .x 12),
  (.bin .add (.s 1 48) (.x 11), .x 13),
  (.call 55 [.x 12, .i .i64 (.ofNat 10), .i .i64 (.ofNat 9)], .tu [.x 14, .b true]),
  (.call 55 [.x 13, .i .i64 (.ofNat 16), .i .i64 (.ofNat 7)], .tu [.x 15, .b true]),
  (.len (.x 12), .x 16),
  (.bin .leq (.x 16) (.i .i64 (.ofNat 9)), .b true),
  (.bin .eql (.x 14) (.x 3), .b true),
  (.len (.x 13), .x 17),
  (.bin .leq (.x 17) (.i .i64 (.ofNat 7)), .b true),
  (.bin .eql (.x 15) (.x 3), .b true)]
noncomputable def tab9 : Tab := addLps ({ tabk with hyp := hy9 }) 5 fi5 [(lfLd (.s 0 0) (.x 3) (.x 4)), (lfLu (.s 0 0) (.x 3) (.b true) (.x 5))]
theorem run9 : okB (call tab9 9000 5 [.x 0, .x 1, .b true] ⟨H0 , 7, 0, 0⟩) = true := by kernel_rfl
def nu9 (n : Int) (zeros : Int) : List Value := [.int .u32 (n),
  .int .u8 (zeros),
  .int .u32 (n % 10000),
  .int .i64 ((n % 10000)),
  St' (digs 10 false (n % 10000)),
  St' (digs 16 true (n % 10000)),
  St' ([u8 48] ++ (digs 10 false (n % 10000))),
  St' ([u8 48] ++ (digs 16 true (n % 10000))),
  St' ([u8 48, u8 48] ++ (digs 10 false (n % 10000))),
  St' ([u8 48, u8 48] ++ (digs 16 true (n % 10000))),
  St' ([u8 48, u8 48, u8 48] ++ (digs 10 false (n % 10000))),
  St' ([u8 48, u8 48, u8 48] ++ (digs 16 true (n % 10000))),
  St' ([u8 48, u8 48, u8 48, u8 48] ++ (digs 10 false (n % 10000))),
  St' ([u8 48, u8 48, u8 48, u8 48] ++ (digs 16 true (n % 10000))),
  .int .i64 (valF 10 ([u8 48, u8 48, u8 48, u8 48] ++ (digs 10 false (n % 10000))) 0),
  .int .i64 (valF 16 ([u8 48, u8 48, u8 48, u8 48] ++ (digs 16 true (n % 10000))) 0),
  .int .i64 (((digs 10 false (n % 10000)).length : Int) + 4),
  .int .i64 (((digs 16 true (n % 10000)).length : Int) + 4)]
theorem one9 (n : Int) (zeros : Int) : ∀ j, j < 1000000 → (nuL (nu9 n zeros) j).oneCell' = true := fun j _ => nuL_one (l := nu9 n zeros) rfl j
set_option maxHeartbeats 2000000 in
theorem hyOk9 (n : Int) (zeros : Int) (b0 : 0 ≤ n) (b1 : n ≤ 4294967295) (b2 : 0 ≤ zeros) (b3 : zeros ≤ 255) (h0 : zeros % 8 = 4) (h2 : ¬ (7 < ((digs 16 true (n % 10000)).length : Int) + 4)) : ∀ k r, (k, r) ∈ hy9 → HOk (cx (nuL (nu9 n zeros)) (one9 n zeros) 0 laidE laidE_stab) k r := by
  have := digs_bd (B := 10) (big := false) (n % 10000)
  have := digs_dec4 (b := false) (k := n % 10000) (by omega) (by omega)
  have := digs_bd (B := 16) (big := true) (n % 10000)
  have := digs_hex4 (b := true) (k := n % 10000) (by omega) (by omega)
  have : valF 10 ([u8 48, u8 48, u8 48, u8 48] ++ (digs 10 false (n % 10000))) 0 = n % 10000 := val_dz (big := false) (.inl rfl) (k := n % 10000) (by omega) (by omega) 4
  have : valF 16 ([u8 48, u8 48, u8 48, u8 48] ++ (digs 16 true (n % 10000))) 0 = n % 10000 := val_dz (big := true) (.inr rfl) (k := n % 10000) (by omega) (by omega) 4
  unfold hy9
  refine hcons (kRem (isX rfl) (isZ (m := 10000) rfl) (denX rfl) (by omega) (by omega) rfl) ?_
  refine hcons (kConvF (isX rfl) tu3 (denX rfl) (fI64 (by omega) (by omega))) ?_
  refine hcons (kRem (isX rfl) (isZ (m := 8) rfl) (denZ (m := 4) rfl) (by omega) (by omega) (by omega)) ?_
  refine hcons (kCat (isSx (l := [u8 48]) 1 48 rfl) (isX rfl) (denX rfl) (by first | rfl | (simp; done)) (by first | omega | (simp <;> omega))) ?_
  refine hcons (kCat (isSx (l := [u8 48]) 1 48 rfl) (isX rfl) (denX rfl) (by first | rfl | (simp; done)) (by first | omega | (simp <;> omega))) ?_
  refine hcons (kCat (isSx (l := [u8 48]) 1 48 rfl) (isX rfl) (denX rfl) (by first | rfl | (simp; done)) (by first | omega | (simp <;> omega))) ?_
  refine hcons (kCat (isSx (l := [u8 48]) 1 48 rfl) (isX rfl) (denX rfl) (by first | rfl | (simp; done)) (by first | omega | (simp <;> omega))) ?_
  refine hcons (kCat (isSx (l := [u8 48]) 1 48 rfl) (isX rfl) (denX rfl) (by first | rfl | (simp; done)) (by first | omega | (simp <;> omega))) ?_
  refine hcons (kCat (isSx (l := [u8 48]) 1 48 rfl) (isX rfl) (denX rfl) (by first | rfl | (simp; done)) (by first | omega | (simp <;> omega))) ?_
  refine hcons (kCat (isSx (l := [u8 48]) 1 48 rfl) (isX rfl) (denX rfl) (by first | rfl | (simp; done)) (by first | omega | (simp <;> omega))) ?_
  refine hcons (kCat (isSx (l := [u8 48]) 1 48 rfl) (isX rfl) (denX rfl) (by first | rfl | (simp; done)) (by first | omega | (simp <;> omega))) ?_
  refine hcons (hokNum10 (s := ([u8 48, u8 48, u8 48, u8 48] ++ (digs 10 false (n % 10000)))) (isX rfl) (isI .i64 10) (isI .i64 9) (denT2 (denX rfl) (denB true)) (by first | omega | (simp only [List.length_append, List.length_cons, List.length_nil]; omega)) (by first | omega | (simp only [List.length_append, List.length_cons, List.length_nil]; omega)) (by first | omega | (simp only [List.length_append, List.length_cons, List.length_nil]; omega)) (okD_dz (big := false) (.inl rfl) 4 (n % 10000))) ?_
  refine hcons (hokNum16 (s := ([u8 48, u8 48, u8 48, u8 48] ++ (digs 16 true (n % 10000)))) (isX rfl) (isI .i64 16) (isI .i64 7) (denT2 (denX rfl) (denB true)) (by first | omega | (simp only [List.length_append, List.length_cons, List.length_nil]; omega)) (by first | omega | (simp only [List.length_append, List.length_cons, List.length_nil]; omega)) (by first | omega | (simp only [List.length_append, List.length_cons, List.length_nil]; omega)) (okD_dz (big := true) (.inr rfl) 4 (n % 10000))) ?_
  refine hcons (kLenE (isX rfl) (denX rfl) (by first | omega | (simp <;> omega))) ?_
  refine hcons (kLe (isX rfl) (isZ (m := 9) rfl) (decide_eq_true (by omega))) ?_
  refine hcons (kEqI (isX rfl) (isX rfl) (decide_eq_true (by omega))) ?_
  refine hcons (kLenE (isX rfl) (denX rfl) (by first | omega | (simp <;> omega))) ?_
  refine hcons (kLe (isX rfl) (isZ (m := 7) rfl) (decide_eq_true (by omega))) ?_
  refine hcons (kEqI (isX rfl) (isX rfl) (decide_eq_true (by omega))) ?_
  exact hnil
theorem path9 (n : Int) (zeros : Int) (b0 : 0 ≤ n) (b1 : n ≤ 4294967295) (b2 : 0 ≤ zeros) (b3 : zeros ≤ 255) (h0 : zeros % 8 = 4) (h2 : ¬ (7 < ((digs 16 true (n % 10000)).length : Int) + 4)) (w : World) (hl : laidE w) : Calls Tryd.prog 5 #[.int .u32 n, .int .u8 zeros, .bool true] w fun e w' => e = .returned (.bool true) ∧ Go.AX.Below (Go.AX.Fz.lt w.heap.size) w w' := by
  have := digs_bd (B := 10) (big := false) (n % 10000)
  have := digs_dec4 (b := false) (k := n % 10000) (by omega) (by omega)
  have := digs_bd (B := 16) (big := true) (n % 10000)
  have := digs_hex4 (b := true) (k := n % 10000) (by omega) (by omega)
  have : valF 10 ([u8 48, u8 48, u8 48, u8 48] ++ (digs 10 false (n % 10000))) 0 = n % 10000 := val_dz (big := false) (.inl rfl) (k := n % 10000) (by omega) (by omega) 4
  have : valF 16 ([u8 48, u8 48, u8 48, u8 48] ++ (digs 16 true (n % 10000))) 0 = n % 10000 := val_dz (big := true) (.inr rfl) (k := n % 10000) (by omega) (by omega) 4
  obtain ⟨fi, hfi, hb⟩ : ∃ fi, tab9.fn.get 5 = some fi ∧ fi.body.isSome = true := ⟨_, (get_lps (by omega)), by show fi5.body.isSome = true; rw [fi5_body]; rfl⟩
  exact runP (tb := tab9) (AllOk.lp1 ((tabkOk (nuL (nu9 n zeros)) (one9 n zeros)).hyps (hyOk9 n zeros b0 b1 b2 b3 h0 h2)) (by omega) fi5_at fi5_body (lfCons ⟨0, keyLd, lfOkLd (T := (digs 10 false (n % 10000))) (f := 10002) (x := n % 10000) (s := []) (isSx (l := ([] : List UInt8)) 0 0 rfl) (isX rfl) (denX rfl) (by omega) (by omega) (fun _ => by omega) rfl (by simp)⟩ (lfCons ⟨1, keyLu, lfOkLu (T := (digs 16 true (n % 10000))) (f := 10002) (x := n % 10000) (s := []) (isSx (l := ([] : List UInt8)) 0 0 rfl) (isX rfl) (isB true) (denX rfl) (by omega) (by omega) (fun _ => by omega) rfl (by simp)⟩ lfNil))) rfl hfi hb (run9 ) (args := [.int .u32 n, .int .u8 zeros, .bool true]) (by simp only [RelL, Rel]; exact ⟨_, _, rfl, rfl, ⟨_, _, rfl, rfl, ⟨_, _, rfl, rfl, rfl⟩⟩⟩) w hl
def hy10 : List (HK × AV) := [(.bin .rem (.x 0) (.i .u32 (.ofNat 10000)), .x 2),
  (.conv 3 (.x 2), .x 3),
  (.bin .rem (.x 1) (.i .u8 (.ofNat 8)), .i .u8 (.ofNat 5)),
  (.bin .add (.s 1 48) (.x 4), .x 6),
  (.bin .add (.s 1 48) (.x 5), .x 7),
  (.bin .add (.s 1 48) (.x 6), .x 8),
  (.bin .add (.s 1 48) (.x 7), .x 9),
  (.bin .add (.s 1 48) (.x 8), .x 10),
  (.bin .add (.s 1 48) (.x 9), .x 11),
  (.bin .add (.s 1 48) (.x 10), .x 12),
  (.bin .add (.s 1 48) (.x 11), .x 13),
  (.bin .add (.s 1 48) (.x 12), .x 14),
  (.bin .add (.s 1 48) (.x 13), .x 15),
  (.call 55 [.x 14, .i .i64 (.ofNat 10), .i .i64 (.ofNat 9)], .tu [.x 16, .b true]),
  (.call 55 [.x 15, .i .i64 (.ofNat 16), .i .i64 (.ofNat 7)], .tu [.i .i64 (.ofNat 0), .b false]),
  (.len (.x 14), .x 17),
  (.bin .leq (.x 17) (.i .i64 (.ofNat 9)), .b true),
  (.bin .eql (.x 16) (.x 3), .b true),
  (.len (.x 15), .x 18),
  (.bin .leq (.x 18) (.i .i64 (.ofNat 7)), .b false)]
noncomputable def tab10 : Tab := addLps ({ tabk with hyp := hy10 }) 5 fi5 [(lfLd (.s 0 0) (.x 3) (.x 4)), (lfLn (.s 0 0) (.x 3) (.b false) (.x 5))]
theorem run10 : okB (call tab10 9000 5 [.x 0, .x 1, .b false] ⟨H0 , 7, 0, 0⟩) = true := by kernel_rfl
def nu10 (n : Int) (zeros : Int) : List Value := [.int .u32 (n),
  .int .u8 (zeros),
  .int .u32 (n % 10000),
  .int .i64 ((n % 10000)),
  St' (digs 10 false (n % 10000)),
  St' (digs 16 false (n % 10000)),
  St' ([u8 48] ++ (digs 10 false (n % 10000))),
  St' ([u8 48] ++ (digs 16 false (n % 10000))),
  St' ([u8 48, u8 48] ++ (digs 10 false (n % 10000))),
  St' ([u8 48, u8 48] ++ (digs 16 false (n % 10000))),
  St' ([u8 48, u8 48, u8 48] ++ (digs 10 false (n % 10000))),
  St' ([u8 48, u8 48, u8 48] ++ (digs 16 false (n % 10000))),
  St' ([u8 48, u8 48, u8 48, u8 48] ++ (digs 10 false (n % 10000))),
  St' ([u8 48, u8 48, u8 48, u8 48] ++ (digs 16 false (n % 10000))),
  St' ([u8 48, u8 48, u8 48, u8 48, u8 48] ++ (digs 10 false (n % 10000))),
  St' ([u8 48, u8 48, u8 48, u8 48, u8 48] ++ (digs 16 false (n % 10000))),
  .int .i64 (valF 10 ([u8 48, u8 48, u8 48, u8 48, u8 48] ++ (digs 10 false (n % 10000))) 0),
  .int .i64 (((digs 10 false (n % 10000)).length : Int) + 5),
  .int .i64 (((digs 16 false (n % 10000)).length : Int) + 5)]
theorem one10 (n : Int) (zeros : Int) : ∀ j, j < 1000000 → (nuL (nu10 n zeros) j).oneCell' = true := fun j _ => nuL_one (l := nu10 n zeros) rfl j
set_option maxHeartbeats 2000000 in
theorem hyOk10 (n : Int) (zeros : Int) (b0 : 0 ≤ n) (b1 : n ≤ 4294967295) (b2 : 0 ≤ zeros) (b3 : zeros ≤ 255) (h0 : zeros % 8 = 5) (h2 : 7 < ((digs 16 false (n % 10000)).length : Int) + 5) : ∀ k r, (k, r) ∈ hy10 → HOk (cx (nuL (nu10 n zeros)) (one10 n zeros) 0 laidE laidE_stab) k r := by
  have := digs_bd (B := 10) (big := false) (n % 10000)
  have := digs_dec4 (b := false) (k := n % 10000) (by omega) (by omega)
  have := digs_bd (B := 16) (big := false) (n % 10000)
  have := digs_hex4 (b := false) (k := n % 10000) (by omega) (by omega)
  have : valF 10 ([u8 48, u8 48, u8 48, u8 48, u8 48] ++ (digs 10 false (n % 10000))) 0 = n % 10000 := val_dz (big := false) (.inl rfl) (k := n % 10000) (by omega) (by omega) 5
  unfold hy10
  refine hcons (kRem (isX rfl) (isZ (m := 10000) rfl) (denX rfl) (by omega) (by omega) rfl) ?_
  refine hcons (kConvF (isX rfl) tu3 (denX rfl) (fI64 (by omega) (by omega))) ?_
  refine hcons (kRem (isX rfl) (isZ (m := 8) rfl) (denZ (m := 5) rfl) (by omega) (by omega) (by omega)) ?_
  refine hcons (kCat (isSx (l := [u8 48]) 1 48 rfl) (isX rfl) (denX rfl) (by first | rfl | (simp; done)) (by first | omega | (simp <;> omega))) ?_
  refine hcons (kCat (isSx (l := [u8 48]) 1 48 rfl) (isX rfl) (denX rfl) (by first | rfl | (simp; done)) (by first | omega | (simp <;> omega))) ?_
  refine hcons (kCat (isSx (l := [u8 48]) 1 48 rfl) (isX rfl) (denX rfl) (by first | rfl | (simp; done)) (by first | omega | (simp <;> omega))) ?_
  refine hcons (kCat (isSx (l := [u8 48]) 1 48 rfl) (isX rfl) (denX rfl) (by first | rfl | (simp; done)) (by first | omega | (simp <;> omega))) ?_
  refine hcons (kCat (isSx (l := [u8 48]) 1 48 rfl) (isX rfl) (denX rfl) (by first | rfl | (simp; done)) (by first | omega | (simp <;> omega))) ?_
  refine hcons (kCat (isSx (l := [u8 48]) 1 48 rfl) (isX rfl) (denX rfl) (by first | rfl | (simp; done)) (by first | omega | (simp <;> omega))) ?_
  refine hcons (kCat (isSx (l := [u8 48]) 1 48 rfl) (isX rfl) (denX rfl) (by first | rfl | (simp; done)) (by first | omega | (simp <;> omega))) ?_
  refine hcons (kCat (isSx (l := [u8 48]) 1 48 rfl) (isX rfl) (denX rfl) (by first | rfl | (simp; done)) (by first | omega | (simp <;> omega))) ?_
  refine hcons (kCat (isSx (l := [u8 48]) 1 48 rfl) (isX rfl) (denX rfl) (by first | rfl | (simp; done)) (by first | omega | (simp <;> omega))) ?_
  refine hcons (kCat (isSx (l := [u8 48]) 1 48 rfl) (isX rfl) (denX rfl) (by first | rfl | (simp; done)) (by first | omega | (simp <;> omega))) ?_
  refine hcons (hokNum10 (s := ([u8 48, u8 48, u8 48, u8 48, u8 48] ++ (digs 10 false (n % 10000)))) (isX rfl) (isI .i64 10) (isI .i64 9) (denT2 (denX rfl) (denB true)) (by first | omega | (simp only [List.length_append, List.length_cons, List.length_nil]; omega)) (by first | omega | (simp only [List.length_append, List.length_cons, List.length_nil]; omega)) (by first | omega | (simp only [List.length_append, List.length_cons, List.length_nil]; omega)) (okD_dz (big := false) (.inl rfl) 5 (n % 10000))) ?_
  refine hcons (hokLong16 (s := ([u8 48, u8 48, u8 48, u8 48, u8 48] ++ (digs 16 false (n % 10000)))) (isX rfl) (isI .i64 16) (isI .i64 7) (denT2 (denI .i64 0) (denB false)) (by first | omega | (simp only [List.length_append, List.length_cons, List.length_nil]; omega)) (by first | omega | (simp only [List.length_append, List.length_cons, List.length_nil]; omega))) ?_
  refine hcons (kLenE (isX rfl) (denX rfl) (by first | omega | (simp <;> omega))) ?_
  refine hcons (kLe (isX rfl) (isZ (m := 9) rfl) (decide_eq_true (by omega))) ?_
  refine hcons (kEqI (isX rfl) (isX rfl) (decide_eq_true (by omega))) ?_
  refine hcons (kLenE (isX rfl) (denX rfl) (by first | omega | (simp <;> omega))) ?_
  refine hcons (kLe (isX rfl) (isZ (m := 7) rfl) (decide_eq_false (by omega))) ?_
  exact hnil
theorem path10 (n : Int) (zeros : Int) (b0 : 0 ≤ n) (b1 : n ≤ 4294967295) (b2 : 0 ≤ zeros) (b3 : zeros ≤ 255) (h0 : zeros % 8 = 5) (h2 : 7 < ((digs 16 false (n % 10000)).length : Int) + 5) (w : World) (hl : laidE w) : Calls Tryd.prog 5 #[.int .u32 n, .int .u8 zeros, .bool false] w fun e w' => e = .returned (.bool true) ∧ Go.AX.Below (Go.AX.Fz.lt w.heap.size) w w' := by
  have := digs_bd (B := 10) (big := false) (n % 10000)
  have := digs_dec4 (b := false) (k := n % 10000) (by omega) (by omega)
  have := digs_bd (B := 16) (big := false) (n % 10000)
  have := digs_hex4 (b := false) (k := n % 10000) (by omega) (by omega)
  have : valF 10 ([u8 48, u8 48, u8 48, u8 48, u8 48] ++ (digs 10 false (n % 10000))) 0 = n % 10000 := val_dz (big := false) (.inl rfl) (k := n % 10000) (by omega) (by omega) 5
  obtain ⟨fi, hfi, hb⟩ : ∃ fi, tab10.fn.get 5 = some fi ∧ fi.body.isSome = true := ⟨_, (get_lps (by omega)), by show fi5.body.isSome = true; rw [fi5_body]; rfl⟩
  exact runP (tb := tab10) (AllOk.lp1 ((tabkOk (nuL (nu10 n zeros)) (one10 n zeros)).hyps (hyOk10 n zeros b0 b1 b2 b3 h0 h2)) (by omega) fi5_at fi5_body (lfCons ⟨0, keyLd, lfOkLd (T := (digs 10 false (n % 10000))) (f := 10002) (x := n % 10000) (s := []) (isSx (l := ([] : List UInt8)) 0 0 rfl) (isX rfl) (denX rfl) (by omega) (by omega) (fun _ => by omega) rfl (by simp)⟩ (lfCons ⟨1, keyLn, lfOkLn (T := (digs 16 false (n % 10000))) (f := 10002) (x := n % 10000) (s := []) (isSx (l := ([] : List UInt8)) 0 0 rfl) (isX rfl) (isB false) (denX rfl) (by omega) (by omega) (fun _ => by omega) rfl (by simp)⟩ lfNil))) rfl hfi hb (run10 ) (args := [.int .u32 n, .int .u8 zeros, .bool false]) (by simp only [RelL, Rel]; exact ⟨_, _, rfl, rfl, ⟨_, _, rfl, rfl, ⟨_, _, rfl, rfl, rfl⟩⟩⟩) w hl
def hy11 : List (HK × AV) := [(.bin .rem (.x 0) (.i .u32 (.ofNat 10000)), .x 2),
  (.conv 3 (.x 2), .x 3),
  (.bin .rem (.x 1) (.i .u8 (.ofNat 8)), .i .u8 (.ofNat 5)),
  (.bin .add (.s 1 48) (.x 4), .x 6),
  (.bin .add (.s 1 48) (.x 5), .x 7),
  (.bin .add (.s 1 48) (.x 6), .x 8),
  (.bin .add (.s 1 48) (.x 7), .x 9),
  (.bin .add (.s 1 48) (.x 8), .x 10),
  (.bin .add (.s 1 48) (.x 9), .x 11),
  (.bin .add (.s 1 48) (.x 10), .x 12),
  (.bin .add (.s 1 48) (.x 11), .x 13),
  (.bin .add (.s 1 48) (.x 12), .x 14),
  (.bin .add (.s 1 48) (.x 13), .x 15),
  (.call 55 [.x 14, .i .i64 (.ofNat 10), .i .i64 (.ofNat 9)], .tu [.x 16, .b true]),
  (.call 55 [.x 15, .i .i64 (.ofNat 16), .i .i64 (.ofNat 7)], .tu [.i .i64 (.ofNat 0), .b false]),
  (.len (.x 14), .x 17),
  (.bin .leq (.x 17) (.i .i64 (.ofNat 9)), .b true),
  (.bin .eql (.x 16) (.x 3), .b true),
  (.len (.x 15), .x 18),
  (.bin .leq (.x 18) (.i .i64 (.ofNat 7)), .b false)]
noncomputable def tab11 : Tab := addLps ({ tabk with hyp := hy11 }) 5 fi5 [(lfLd (.s 0 0) (.x 3) (.x 4)), (lfLu (.s 0 0) (.x 3) (.b true) (.x 5))]
theorem run11 : okB (call tab11 9000 5 [.x 0, .x 1, .b true] ⟨H0 , 7, 0, 0⟩) = true := by kernel_rfl
def nu11 (n : Int) (zeros : Int) : List Value := [.int .u32 (n),
  .int .u8 (zeros),
  .int .u32 (n % 10000),
  .int .i64 ((n % 10000)),
  St' (digs 10 false (n % 10000)),
  St' (digs 16 true (n % 10000)),
  St' ([u8 48] ++ (digs 10 false (n % 10000))),
  St' ([u8 48] ++ (digs 16 true (n % 10000))),
  St' ([u8 48, u8 48] ++ (digs 10 false (n % 10000))),
  St' ([u8 48, u8 48] ++ (digs 16 true (n % 10000))),
  St' ([u8 48, u8 48, u8 48] ++ (digs 10 false (n % 10000))),
  St' ([u8 48, u8 48, u8 48] ++ (digs 16 true (n % 10000))),
  St' ([u8 48, u8 48, u8 48, u8 48] ++ (digs 10 false (n % 10000))),
  St' ([u8 48, u8 48, u8 48, u8 48] ++ (digs 16 true (n % 10000))),
  St' ([u8 48, u8 48, u8 48, u8 48, u8 48] ++ (digs 10 false (n % 10000))),
  St' ([u8 48, u8 48, u8 48, u8 48, u8 48] ++ (digs 16 true (n % 10000))),
  .int .i64 (valF 10 ([u8 48, u8 48, u8 48, u8 48, u8 48] ++ (digs 10 false (n % 10000))) 0),
  .int .i64 (((digs 10 false (n % 10000)).length : Int) + 5),
  .int .i64 (((digs 16 true (n % 10000)).length : Int) + 5)]
theorem one11 (n : Int) (zeros : Int) : ∀ j, j < 1000000 → (nuL (nu11 n zeros) j).oneCell' = true := fun j _ => nuL_one (l := nu11 n zeros) rfl j
set_option maxHeartbeats 2000000 in
theorem hyOk11 (n : Int) (zeros : Int) (b0 : 0 ≤ n) (b1 : n ≤ 4294967295) (b2 : 0 ≤ zeros) (b3 : zeros ≤ 255) (h0 : zeros % 8 = 5) (h2 : 7 < ((digs 16 true (n % 10000)).length : Int) + 5) : ∀ k r, (k, r) ∈ hy11 → HOk (cx (nuL (nu11 n zeros)) (one11 n zeros) 0 laidE laidE_stab) k r := by
  have := digs_bd (B := 10) (big := false) (n % 10000)
  have := digs_dec4 (b := false) (k := n % 10000) (by omega) (by omega)
  have := digs_bd (B := 16) (big := true) (n % 10000)
  have := digs_hex4 (b := true) (k := n % 10000) (by omega) (by omega)
  have : valF 10 ([u8 48, u8 48, u8 48, u8 48, u8 48] ++ (digs 10 false (n % 10000))) 0 = n % 10000 := val_dz (big := false) (.inl rfl) (k := n % 10000) (by omega) (by omega) 5
  unfold hy11
  refine hcons (kRem (isX rfl) (isZ (m := 10000) rfl) (denX rfl) (by omega) (by omega) rfl) ?_
  refine hcons (kConvF (isX rfl) tu3 (denX rfl) (fI64 (by omega) (by omega))) ?_
  refine hcons (kRem (isX rfl) (isZ (m := 8) rfl) (denZ (m := 5) rfl) (by omega) (by omega) (by omega)) ?_
  refine hcons (kCat (isSx (l := [u8 48]) 1 48 rfl) (isX rfl) (denX rfl) (by first | rfl | (simp; done)) (by first | omega | (simp <;> omega))) ?_
  refine hcons (kCat (isSx (l := [u8 48]) 1 48 rfl) (isX rfl) (denX rfl) (by first | rfl | (simp; done)) (by first | omega | (simp <;> omega))) ?_
  refine hcons (kCat (isSx (l := [u8 48]) 1 48 rfl) (isX rfl) (denX rfl) (by first | rfl | (simp; done)) (by first | omega | (simp <;> omega))) ?_
  refine hcons (kCat (isSx (l := [u8 48]) 1 48 rfl) (isX rfl) (denX rfl) (by first | rfl | (simp; done)) (by first | omega | (simp <;> omega))) ?_
  refine hcons (kCat (isSx (l := [u8 48]) 1 48 rfl) (isX rfl) (denX rfl) (by first | rfl | (simp; done)) (by first | omega | (simp <;> omega))) ?_
  refine hcons (kCat (isSx (l := [u8 48]) 1 48 rfl) (isX rfl) (denX rfl) (by first | rfl | (simp; done)) (by first | omega | (simp <;> omega))) ?_
  refine hcons (kCat (isSx (l := [u8 48]) 1 48 rfl) (isX rfl) (denX rfl) (by first | rfl | (simp; done)) (by first | omega | (simp <;> omega))) ?_
  refine hcons (kCat (isSx (l := [u8 48]) 1 48 rfl) (isX rfl) (denX rfl) (by first | rfl | (simp; done)) (by first | omega | (simp <;> omega))) ?_
  refine hcons (kCat (isSx (l := [u8 48]) 1 48 rfl) (isX rfl) (denX rfl) (by first | rfl | (simp; done)) (by first | omega | (simp <;> omega))) ?_
  refine hcons (kCat (isSx (l := [u8 48]) 1 48 rfl) (isX rfl) (denX rfl) (by first | rfl | (simp; done)) (by first | omega | (simp <;> omega))) ?_
  refine hcons (hokNum10 (s := ([u8 48, u8 48, u8 48, u8 48, u8 48] ++ (digs 10 false (n % 10000)))) (isX rfl) (isI .i64 10) (isI .i64 9) (denT2 (denX rfl) (denB true)) (by first | omega | (simp only [List.length_append, List.length_cons, List.length_nil]; omega)) (by first | omega | (simp only [List.length_append, List.length_cons, List.length_nil]; omega)) (by first | omega | (simp only [List.length_append, List.length_cons, List.length_nil]; omega)) (okD_dz (big := false) (.inl rfl) 5 (n % 10000))) ?_
  refine hcons (hokLong16 (s := ([u8 48, u8 48, u8 48, u8 48, u8 48] ++ (digs 16 true (n % 10000)))) (isX rfl) (isI .i64 16) (isI .i64 7) (denT2 (denI .i64 0) (denB false)) (by first | omega | (simp only [List.length_append, List.length_cons, List.length_nil]; omega)) (by first | omega | (simp only [List.length_append, List.length_cons, List.length_nil]; omega))) ?_
  refine hcons (kLenE (isX rfl) (denX rfl) (by first | omega | (simp <;> omega))) ?_
  refine hcons (kLe (isX rfl) (isZ (m := 9) rfl) (decide_eq_true (by omega))) ?_
  refine hcons (kEqI (isX rfl) (isX rfl) (decide_eq_true (by omega))) ?_
  refine hcons (kLenE (isX rfl) (denX rfl) (by first | omega | (simp <;> omega))) ?_
  refine hcons (kLe (isX rfl) (isZ (m := 7) rfl) (decide_eq_false (by omega))) ?_
  exact hnil
theorem path11 (n : Int) (zeros : Int) (b0 : 0 ≤ n) (b1 : n ≤ 4294967295) (b2 : 0 ≤ zeros) (b3 : zeros ≤ 255) (h0 : zeros % 8 = 5) (h2 : 7 < ((digs 16 true (n % 10000)).length : Int) + 5) (w : World) (hl : laidE w) : Calls Tryd.prog 5 #[.int .u32 n, .int .u8 zeros, .bool true] w fun e w' => e = .returned (.bool true) ∧ Go.AX.Below (Go.AX.Fz.lt w.heap.size) w w' := by
  have := digs_bd (B := 10) (big := false) (n % 10000)
  have := digs_dec4 (b := false) (k := n % 10000) (by omega) (by omega)
  have := digs_bd (B := 16) (big := true) (n % 10000)
  have := digs_hex4 (b := true) (k := n % 10000) (by omega) (by omega)
  have : valF 10 ([u8 48, u8 48, u8 48, u8 48, u8 48] ++ (digs 10 false (n % 10000))) 0 = n % 10000 := val_dz (big := false) (.inl rfl) (k := n % 10000) (by omega) (by omega) 5
  obtain ⟨fi, hfi, hb⟩ : ∃ fi, tab11.fn.get 5 = some fi ∧ fi.body.isSome = true := ⟨_, (get_lps (by omega)), by show fi5.body.isSome = true; rw [fi5_body]; rfl⟩
  exact runP (tb := tab11) (AllOk.lp1 ((tabkOk (nuL (nu11 n zeros)) (one11 n zeros)).hyps (hyOk11 n zeros b0 b1 b2 b3 h0 h2)) (by omega) fi5_at fi5_body (lfCons ⟨0, keyLd, lfOkLd (T := (digs 10 false (n % 10000))) (f := 10002) (x := n % 10000) (s := []) (isSx (l := ([] : List UInt8)) 0 0 rfl) (isX rfl) (denX rfl) (by omega) (by omega) (fun _ => by omega) rfl (by simp)⟩ (lfCons ⟨1, keyLu, lfOkLu (T := (digs 16 true (n % 10000))) (f := 10002) (x := n % 10000) (s := []) (isSx (l := ([] : List UInt8)) 0 0 rfl) (isX rfl) (isB true) (denX rfl) (by omega) (by omega) (fun _ => by omega) rfl (by simp)⟩ lfNil))) rfl hfi hb (run11 ) (args := [.int .u32 n, .int .u8 zeros, .bool true]) (by simp only [RelL, Rel]; exact ⟨_, _, rfl, rfl, ⟨_, _, rfl, rfl, ⟨_, _, rfl, rfl, rfl⟩⟩⟩) w hl
def hy12 : List (HK × AV) := [(.bin .rem (.x 0) (.i .u32 (.ofNat 10000)), .x 2),
  (.conv 3 (.x 2), .x 3),
  (.bin .rem (.x 1) (.i .u8 (.ofNat 8)), .i .u8 (.ofNat 6)),
  (.bin .add (.s 1 48) (.x 4), .x 6),
  (.bin .add (.s 1 48) (.x 5), .x 7),
  (.bin .add (.s 1 48) (.x 6), .x 8),
  (.bin .add (.s 1 48) (.x 7), .x 9),
  (.bin .add (.s 1 48) (.x 8), .x 10),
  (.bin .add (.s 1 48) (.x 9), .x 11),
  (.bin .add (.s 1 48) (.x 10), .x 12),
  (.bin .add (.s 1 48) (.x 11), .x 13),
  (.bin .add (.s 1 48) (.x 12), .x 14),
  (.bin .add (.s 1 48) (.x 13), .x 15),
  (.bin .add (.s 1 48) (.x 14), .x 16),
  (.bin .add (.s 1 48) (.x 15), .x 17),
  (.call 55 [.x 16, .i .i64 (.ofNat 10), .i .i64 (.ofNat 9)], .tu [.i .i64 (.ofNat 0), .b false]),
  (.call 55 [.x 17, .i .i64 (.ofNat 16), .i .i64 (.ofNat 7)], .tu [.i .i64 (.ofNat 0), .b false]),
  (.len (.x 16), .x 18),
  (.bin .leq (.x 18) (.i .i64 (.ofNat 9)), .b false),
  (.len (.x 17), .x 19),
  (.bin .leq (.x 19) (.i .i64 (.ofNat 7)), .b false)]
noncomputable def tab12 : Tab := addLps ({ tabk with hyp := hy12 }) 5 fi5 [(lfLd (.s 0 0) (.x 3) (.x 4)), (lfLn (.s 0 0) (.x 3) (.b false) (.x 5))]
theorem run12 : okB (call tab12 9000 5 [.x 0, .x 1, .b false] ⟨H0 , 7, 0, 0⟩) = true := by kernel_rfl
def nu12 (n : Int) (zeros : Int) : List Value := [.int .u32 (n),
  .int .u8 (zeros),
  .int .u32 (n % 10000),
  .int .i64 ((n % 10000)),
  St' (digs 10 false (n % 10000)),
  St' (digs 16 false (n % 10000)),
  St' ([u8 48] ++ (digs 10 false (n % 10000))),
  St' ([u8 48] ++ (digs 16 false (n % 10000))),
  St' ([u8 48, u8 48] ++ (digs 10 false (n % 10000))),
  St' ([u8 48, u8 48] ++ (digs 16 false (n % 10000))),
  St' ([u8 48, u8 48, u8 48] ++ (digs 10 false (n % 10000))),
  St' ([u8 48, u8 48, u8 48] ++ (digs 16 false (n % 10000))),
  St' ([u8 48, u8 48, u8 48, u8 48] ++ (digs 10 false (n % 10000))),
  St' ([u8 48, u8 48, u8 48, u8 48] ++ (digs 16 false (n % 10000))),
  St' ([u8 48, u8 48, u8 48, u8 48, u8 48] ++ (digs 10 false (n % 10000))),
  St' ([u8 48, u8 48, u8 48, u8 48, u8 48] ++ (digs 16 false (n % 10000))),
  St' ([u8 48, u8 48, u8 48, u8 48, u8 48, u8 48] ++ (digs 10 false (n % 10000))),
  St' ([u8 48, u8 48, u8 48, u8 48, u8 48, u8 48] ++ (digs 16 false (n % 10000))),
  .int .i64 (((digs 10 false (n % 10000)).length : Int) + 6),
  .int .i64 (((digs 16 false (n % 10000)).length : Int) + 6)]
theorem one12 (n : Int) (zeros : Int) : ∀ j, j < 1000000 → (nuL (nu12 n zeros) j).oneCell' = true := fun j _ => nuL_one (l := nu12 n zeros) rfl j
set_option maxHeartbeats 2000000 in
theorem hyOk12 (n : Int) (zeros : Int) (b0 : 0 ≤ n) (b1 : n ≤ 4294967295) (b2 : 0 ≤ zeros) (b3 : zeros ≤ 255) (h0 : zeros % 8 = 6) (h1 : 9 < ((digs 10 false (n % 10000)).length : Int) + 6) : ∀ k r, (k, r) ∈ hy12 → HOk (cx (nuL (nu12 n zeros)) (one12 n zeros) 0 laidE laidE_stab) k r := by
  have := digs_bd (B := 10) (big := false) (n % 10000)
  have := digs_dec4 (b := false) (k := n % 10000) (by omega) (by omega)
  have := digs_bd (B := 16) (big := false) (n % 10000)
  have := digs_hex4 (b := false) (k := n % 10000) (by omega) (by omega)
  unfold hy12
  refine hcons (kRem (isX rfl) (isZ (m := 10000) rfl) (denX rfl) (by omega) (by omega) rfl) ?_
  refine hcons (kConvF (isX rfl) tu3 (denX rfl) (fI64 (by omega) (by omega))) ?_
  refine hcons (kRem (isX rfl) (isZ (m := 8) rfl) (denZ (m := 6) rfl) (by omega) (by omega) (by omega)) ?_
  refine hcons (kCat (isSx (l := [u8 48]) 1 48 rfl) (isX rfl) (denX rfl) (by first | rfl | (simp; done)) (by first | omega | (simp <;> omega))) ?_
  refine hcons (kCat (isSx (l := [u8 48]) 1 48 rfl) (isX rfl) (denX rfl) (by first | rfl | (simp; done)) (by first | omega | (simp <;> omega))) ?_
  refine hcons (kCat (isSx (l := [u8 48]) 1 48 rfl) (isX rfl) (denX rfl) (by first | rfl | (simp; done)) (by first | omega | (simp <;> omega))) ?_
  refine hcons (kCat (isSx (l := [u8 48]) 1 48 rfl) (isX rfl) (denX rfl) (by first | rfl | (simp; done)) (by first | omega | (simp <;> omega))) ?_
  refine hcons (kCat (isSx (l := [u8 48]) 1 48 rfl) (isX rfl) (denX rfl) (by first | rfl | (simp; done)) (by first | omega | (simp <;> omega))) ?_
  refine hcons (kCat (isSx (l := [u8 48]) 1 48 rfl) (isX rfl) (denX rfl) (by first | rfl | (simp; done)) (by first | omega | (simp <;> omega))) ?_
  refine hcons (kCat (isSx (l := [u8 48]) 1 48 rfl) (isX rfl) (denX rfl) (by first | rfl | (simp; done)) (by first | omega | (simp <;> omega))) ?_
  refine hcons (kCat (isSx (l := [u8 48]) 1 48 rfl) (isX rfl) (denX rfl) (by first | rfl | (simp; done)) (by first | omega | (simp <;> omega))) ?_
  refine hcons (kCat (isSx (l := [u8 48]) 1 48 rfl) (isX rfl) (denX rfl) (by first | rfl | (simp; done)) (by first | omega | (simp <;> omega))) ?_
  refine hcons (kCat (isSx (l := [u8 48]) 1 48 rfl) (isX rfl) (denX rfl) (by first | rfl | (simp; done)) (by first | omega | (simp <;> omega))) ?_
  refine hcons (kCat (isSx (l := [u8 48]) 1 48 rfl) (isX rfl) (denX rfl) (by first | rfl | (simp; done)) (by first | omega | (simp <;> omega))) ?_
  refine hcons (kCat (isSx (l := [u8 48]) 1 48 rfl) (isX rfl) (denX rfl) (by first | rfl | (simp; done)) (by first | omega | (simp <;> omega))) ?_
  refine hcons (hokLong10 (s := ([u8 48, u8 48, u8 48, u8 48, u8 48, u8 48] ++ (digs 10 false (n % 10000)))) (isX rfl) (isI .i64 10) (isI .i64 9) (denT2 (denI .i64 0) (denB false)) (by first | omega | (simp only [List.length_append, List.length_cons, List.length_nil]; omega)) (by first | omega | (simp only [List.length_append, List.length_cons, List.length_nil]; omega))) ?_
  refine hcons (hokLong16 (s := ([u8 48, u8 48, u8 48, u8 48, u8 48, u8 48] ++ (digs 16 false (n % 10000)))) (isX rfl) (isI .i64 16) (isI .i64 7) (denT2 (denI .i64 0) (denB false)) (by first | omega | (simp only [List.length_append, List.length_cons, List.length_nil]; omega)) (by first | omega | (simp only [List.length_append, List.length_cons, List.length_nil]; omega))) ?_
  refine hcons (kLenE (isX rfl) (denX rfl) (by first | omega | (simp <;> omega))) ?_
  refine hcons (kLe (isX rfl) (isZ (m := 9) rfl) (decide_eq_false (by omega))) ?_
  refine hcons (kLenE (isX rfl) (denX rfl) (by first | omega | (simp <;> omega))) ?_
  refine hcons (kLe (isX rfl) (isZ (m := 7) rfl) (decide_eq_false (by omega))) ?_
  exact hnil
theorem path12 (n : Int) (zeros : Int) (b0 : 0 ≤ n) (b1 : n ≤ 4294967295) (b2 : 0 ≤ zeros) (b3 : zeros ≤ 255) (h0 : zeros % 8 = 6) (h1 : 9 < ((digs 10 false (n % 10000)).length : Int) + 6) (w : World) (hl : laidE w) : Calls Tryd.prog 5 #[.int .u32 n, .int .u8 zeros, .bool false] w fun e w' => e = .returned (.bool true) ∧ Go.AX.Below (Go.AX.Fz.lt w.heap.size) w w' := by
  have := digs_bd (B := 10) (big := false) (n % 10000)
  have := digs_dec4 (b := false) (k := n % 10000) (by omega) (by omega)
  have := digs_bd (B := 16) (big := false) (n % 10000)
  have := digs_hex4 (b := false) (k := n % 10000) (by omega) (by omega)
  obtain ⟨fi, hfi, hb⟩ : ∃ fi, tab12.fn.get 5 = some fi ∧ fi.body.isSome = true := ⟨_, (get_lps (by omega)), by show fi5.body.isSome = true; rw [fi5_body]; rfl⟩
  exact runP (tb := tab12) (AllOk.lp1 ((tabkOk (nuL (nu12 n zeros)) (one12 n zeros)).hyps (hyOk12 n zeros b0 b1 b2 b3 h0 h1)) (by omega) fi5_at fi5_body (lfCons ⟨0, keyLd, lfOkLd (T := (digs 10 false (n % 10000))) (f := 10002) (x := n % 10000) (s := []) (isSx (l := ([] : List UInt8)) 0 0 rfl) (isX rfl) (denX rfl) (by omega) (by omega) (fun _ => by omega) rfl (by simp)⟩ (lfCons ⟨1, keyLn, lfOkLn (T := (digs 16 false (n % 10000))) (f := 10002) (x := n % 10000) (s := []) (isSx (l := ([] : List UInt8)) 0 0 rfl) (isX rfl) (isB false) (denX rfl) (by omega) (by omega) (fun _ => by omega) rfl (by simp)⟩ lfNil))) rfl hfi hb (run12 ) (args := [.int .u32 n, .int .u8 zeros, .bool false]) (by simp only [RelL, Rel]; exact ⟨_, _, rfl, rfl, ⟨_, _, rfl, rfl, ⟨_, _, rfl, rfl, rfl⟩⟩⟩) w hl
def hy13 : List (HK × AV) := [(.bin .rem (.x 0) (.i .u32 (.ofNat 10000)), .x 2),
  (.conv 3 (.x 2), .x 3),
  (.bin .rem (.x 1) (.i .u8 (.ofNat 8)), .i .u8 (.ofNat 6)),
  (.bin .add (.s 1 48) (.x 4), .x 6),
  (.bin .add (.s 1 48) (.x 5), .x 7),
  (.bin .add (.s 1 48) (.x 6), .x 8),
  (.bin .add (.s 1 48) (.x 7), .x 9),
  (.bin .add (.s 1 48) (.x 8), .x 10),
  (.bin .add (.s 1 48) (.x 9), .x 11),
  (.bin .add (.s 1 48) (.x 10), .x 12),
  (.bin .add (.s 1 48) (.x 11), .x 13),
  (.bin .add (.s 1 48) (.x 12), .x 14),
  (.bin .add (.s 1 48) (.x 13), .x 15),
  (.bin .add (.s 1 48) (.x 14), .x 16),
  (.bin .add (.s 1 48) (.x 15), .x 17),
  (.call 55 [.x 16, .i .i64 (.ofNat 10), .i .i64 (.ofNat 9)], .tu [.i .i64 (.ofNat 0), .b false]),
  (.call 55 [.x 17, .i .i64 (.ofNat 16), .i .i64 (.ofNat 7)], .tu [.i .i64 (.ofNat 0), .b false]),
  (.len (.x 16), .x 18),
  (.bin .leq (.x 18) (.i .i64 (.ofNat 9)), .b false),
  (.len (.x 17), .x 19),
  (.bin .leq (.x 19) (.i .i64 (.ofNat 7)), .b false)]
noncomputable def tab13 : Tab := addLps ({ tabk with hyp := hy13 }) 5 fi5 [(lfLd (.s 0 0) (.x 3) (.x 4)), (lfLu (.s 0 0) (.x 3) (.b true) (.x 5))]
theorem run13 : okB (call tab13 9000 5 [.x 0, .x 1, .b true] ⟨H0 , 7, 0, 0⟩) = true := by kernel_rfl
def nu13 (n : Int) (zeros : Int) : List Value := [.int .u32 (n),
  .int .u8 (zeros),
  .int .u32 (n % 10000),
  .int .i64 ((n % 10000)),
  St' (digs 10 false (n % 10000)),
  St' (digs 16 true (n % 10000)),
  St' ([u8 48] ++ (digs 10 false (n % 10000))),
  St' ([u8 48] ++ (digs 16 true (n % 10000))),
  St' ([u8 48, u8 48] ++ (digs 10 false (n % 10000))),
  St' ([u8 48, u8 48] ++ (digs 16 true (n % 10000))),
  St' ([u8 48, u8 48, u8 48] ++ (digs 10 false (n % 10000))),
  St' ([u8 48, u8 48, u8 48] ++ (digs 16 true (n % 10000))),
  St' ([u8 48, u8 48, u8 48, u8 48] ++ (digs 10 false (n % 10000))),
  St' ([u8 48, u8 48, u8 48, u8 48] ++ (digs 16 true (n % 10000))),
  St' ([u8 48, u8 48, u8 48, u8 48, u8 48] ++ (digs 10 false (n % 10000))),
  St' ([u8 48, u8 48, u8 48, u8 48, u8 48] ++ (digs 16 true (n % 10000))),
  St' ([u8 48, u8 48, u8 48, u8 48, u8 48, u8 48] ++ (digs 10 false (n % 10000))),
  St' ([u8 48, u8 48, u8 48, u8 48, u8 48, u8 48] ++ (digs 16 true (n % 10000))),
  .int .i64 (((digs 10 false (n % 10000)).length : Int) + 6),
  .int .i64 (((digs 16 true (n % 10000)).length : Int) + 6)]
theorem one13 (n : Int) (zeros : Int) : ∀ j, j < 1000000 → (nuL (nu13 n zeros) j).oneCell' = true := fun j _ => nuL_one (l := nu13 n zeros) rfl j
set_option maxHeartbeats 2000000 in
theorem hyOk13 (n : Int) (zeros : Int) (b0 : 0 ≤ n) (b1 : n ≤ 4294967295) (b2 : 0 ≤ zeros) (b3 : zeros ≤ 255) (h0 : zeros % 8 = 6) (h1 : 9 < ((digs 10 false (n % 10000)).length : Int) + 6) : ∀ k r, (k, r) ∈ hy13 → HOk (cx (nuL (nu13 n zeros)) (one13 n zeros) 0 laidE laidE_stab) k r := by
  have := digs_bd (B := 10) (big := false) (n % 10000)
  have := digs_dec4 (b := false) (k := n % 10000) (by omega) (by omega)
  have := digs_bd (B := 16) (big := true) (n % 10000)
  have := digs_hex4 (b := true) (k := n % 10000) (by omega) (by omega)
  unfold hy13
  refine hcons (kRem (isX rfl) (isZ (m := 10000) rfl) (denX rfl) (by omega) (by omega) rfl) ?_
  refine hcons (kConvF (isX rfl) tu3 (denX rfl) (fI64 (by omega) (by omega))) ?_
  refine hcons (kRem (isX rfl) (isZ (m := 8) rfl) (denZ (m := 6) rfl) (by omega) (by omega) (by omega)) ?_
  refine hcons (kCat (isSx (l := [u8 48]) 1 48 rfl) (isX rfl) (denX rfl) (by first | rfl | (simp; done)) (by first | omega | (simp <;> omega))) ?_
  refine hcons (kCat (isSx (l := [u8 48]) 1 48 rfl) (isX rfl) (denX rfl) (by first | rfl | (simp; done)) (by first | omega | (simp <;> omega))) ?_
  refine hcons (kCat (isSx (l := [u8 48]) 1 48 rfl) (isX rfl) (denX rfl) (by first | rfl | (simp; done)) (by first | omega | (simp <;> omega))) ?_
  refine hcons (kCat (isSx (l := [u8 48]) 1 48 rfl) (isX rfl) (denX rfl) (by first | rfl | (simp; done)) (by first | omega | (simp <;> omega))) ?_
  refine hcons (kCat (isSx (l := [u8 48]) 1 48 rfl) (isX rfl) (denX rfl) (by first | rfl | (simp; done)) (by first | omega | (simp <;> omega))) ?_
  refine hcons (kCat (isSx (l := [u8 48]) 1 48 rfl) (isX rfl) (denX rfl) (by first | rfl | (simp; done)) (by first | omega | (simp <;> omega))) ?_
  refine hcons (kCat (isSx (l := [u8 48]) 1 48 rfl) (isX rfl) (denX rfl) (by first | rfl | (simp; done)) (by first | omega | (simp <;> omega))) ?_
  refine hcons (kCat (isSx (l := [u8 48]) 1 48 rfl) (isX rfl) (denX rfl) (by first | rfl | (simp; done)) (by first | omega | (simp <;> omega))) ?_
  refine hcons (kCat (isSx (l := [u8 48]) 1 48 rfl) (isX rfl) (denX rfl) (by first | rfl | (simp; done)) (by first | omega | (simp <;> omega))) ?_
  refine hcons (kCat (isSx (l := [u8 48]) 1 48 rfl) (isX rfl) (denX rfl) (by first | rfl | (simp; done)) (by first | omega | (simp <;> omega))) ?_
  refine hcons (kCat (isSx (l := [u8 48]) 1 48 rfl) (isX rfl) (denX rfl) (by first | rfl | (simp; done)) (by first | omega | (simp <;> omega))) ?_
  refine hcons (kCat (isSx (l := [u8 48]) 1 48 rfl) (isX rfl) (denX rfl) (by first | rfl | (simp; done)) (by first | omega | (simp <;> omega))) ?_
  refine hcons (hokLong10 (s := ([u8 48, u8 48, u8 48, u8 48, u8 48, u8 48] ++ (digs 10 false (n % 10000)))) (isX rfl) (isI .i64 10) (isI .i64 9) (denT2 (denI .i64 0) (denB false)) (by first | omega | (simp only [List.length_append, List.length_cons, List.length_nil]; omega)) (by first | omega | (simp only [List.length_append, List.length_cons, List.length_nil]; omega))) ?_
  refine hcons (hokLong16 (s := ([u8 48, u8 48, u8 48, u8 48, u8 48, u8 48] ++ (digs 16 true (n % 10000)))) (isX rfl) (isI .i64 16) (isI .i64 7) (denT2 (denI .i64 0) (denB false)) (by first | omega | (simp only [List.length_append, List.length_cons, List.length_nil]; omega)) (by first | omega | (simp only [List.length_append, List.length_cons, List.length_nil]; omega))) ?_
  refine hcons (kLenE (isX rfl) (denX rfl) (by first | omega | (simp <;> omega))) ?_
  refine hcons (kLe (isX rfl) (isZ (m := 9) rfl) (decide_eq_false (by omega))) ?_
  refine hcons (kLenE (isX rfl) (denX rfl) (by first | omega | (simp <;> omega))) ?_
  refine hcons (kLe (isX rfl) (isZ (m := 7) rfl) (decide_eq_false (by omega))) ?_
  exact hnil
theorem path13 (n : Int) (zeros : Int) (b0 : 0 ≤ n) (b1 : n ≤ 4294967295) (b2 : 0 ≤ zeros) (b3 : zeros ≤ 255) (h0 : zeros % 8 = 6) (h1 : 9 < ((digs 10 false (n % 10000)).length : Int) + 6) (w : World) (hl : laidE w) : Calls Tryd.prog 5 #[.int .u32 n, .int .u8 zeros, .bool true] w fun e w' => e = .returned (.bool true) ∧ Go.AX.Below (Go.AX.Fz.lt w.heap.size) w w' := by
  have := digs_bd (B := 10) (big := false) (n % 10000)
  have := digs_dec4 (b := false) (k := n % 10000) (by omega) (by omega)
  have := digs_bd (B := 16) (big := true) (n % 10000)
  have := digs_hex4 (b := true) (k := n % 10000) (by omega) (by omega)
  obtain ⟨fi, hfi, hb⟩ : ∃ fi, tab13.fn.get 5 = some fi ∧ fi.body.isSome = true := ⟨_, (get_lps (by omega)), by show fi5.body.isSome = true; rw [fi5_body]; rfl⟩
  exact runP (tb := tab13) (AllOk.lp1 ((tabkOk (nuL (nu13 n zeros)) (one13 n zeros)).hyps (hyOk13 n zeros b0 b1 b2 b3 h0 h1)) (by omega) fi5_at fi5_body (lfCons ⟨0, keyLd, lfOkLd (T := (digs 10 false (n % 10000))) (f := 10002) (x := n % 10000) (s := []) (isSx (l := ([] : List UInt8)) 0 0 rfl) (isX rfl) (denX rfl) (by omega) (by omega) (fun _ => by omega) rfl (by simp)⟩ (lfCons ⟨1, keyLu, lfOkLu (T := (digs 16 true (n % 10000))) (f := 10002) (x := n % 10000) (s := []) (isSx (l := ([] : List UInt8)) 0 0 rfl) (isX rfl) (isB true) (denX rfl) (by omega) (by omega) (fun _ => by omega) rfl (by simp)⟩ lfNil))) rfl hfi hb (run13 ) (args := [.int .u32 n, .int .u8 zeros, .bool true]) (by simp only [RelL, Rel]; exact ⟨_, _, rfl, rfl, ⟨_, _, rfl, rfl, ⟨_, _, rfl, rfl, rfl⟩⟩⟩) w hl
def hy14 : List (HK × AV) := [(.bin .rem (.x 0) (.i .u32 (.ofNat 10000)), .x 2),
  (.conv 3 (.x 2), .x 3),
  (.bin .rem (.x 1) (.i .u8 (.ofNat 8)), .i .u8 (.ofNat 7)),
  (.bin .add (.s 1 48) (.x 4), .x 6),
  (.bin .add (.s 1 48) (.x 5), .x 7),
  (.bin .add (.s 1 48) (.x 6), .x 8),
  (.bin .add (.s 1 48) (.x 7), .x 9),
  (.bin .add (.s 1 48) (.x 8), .x 10),
  (.bin .add (.s 1 48) (.x 9), .x 11),
  (.bin .add (.s 1 48) (.x 10), .x 12),
  (.bin .add (.s 1 48) (.x 11), .x 13),
  (.bin .add (.s 1 48) (.x 12), .x 14),
  (.bin .add (.s 1 48) (.x 13), .x 15),
  (.bin .add (.s 1 48) (.x 14), .x 16),
  (.bin .add (.s 1 48) (.x 15), .x 17),
  (.bin .add (.s 1 48) (.x 16), .x 18),
  (.bin .add (.s 1 48) (.x 17), .x 19),
  (.call 55 [.x 18, .i .i64 (.ofNat 10), .i .i64 (.ofNat 9)], .tu [.i .i64 (.ofNat 0), .b false]),
  (.call 55 [.x 19, .i .i64 (.ofNat 16), .i .i64 (.ofNat 7)], .tu [.i .i64 (.ofNat 0), .b false]),
  (.len (.x 18), .x 20),
  (.bin .leq (.x 20) (.i .i64 (.ofNat 9)), .b false),
  (.len (.x 19), .x 21),
  (.bin .leq (.x 21) (.i .i64 (.ofNat 7)), .b false)]
noncomputable def tab14 : Tab := addLps ({ tabk with hyp := hy14 }) 5 fi5 [(lfLd (.s 0 0) (.x 3) (.x 4)), (lfLn (.s 0 0) (.x 3) (.b false) (.x 5))]
theorem run14 : okB (call tab14 9000 5 [.x 0, .x 1, .b false] ⟨H0 , 7, 0, 0⟩) = true := by kernel_rfl
def nu14 (n : Int) (zeros : Int) : List Value := [.int .u32 (n),
  .int .u8 (zeros),
  .int .u32 (n % 10000),
  .int .i64 ((n % 10000)),
  St' (digs 10 false (n % 10000)),
  St' (digs 16 false (n % 10000)),
  St' ([u8 48] ++ (digs 10 false (n % 10000))),
  St' ([u8 48] ++ (digs 16 false (n % 10000))),
  St' ([u8 48, u8 48] ++ (digs 10 false (n % 10000))),
  St' ([u8 48, u8 48] ++ (digs 16 false (n % 10000))),
  St' ([u8 48, u8 48, u8 48] ++ (digs 10 false (n % 10000))),
  St' ([u8 48, u8 48, u8 48] ++ (digs 16 false (n % 10000))),
  St' ([u8 48, u8 48, u8 48, u8 48] ++ (digs 10 false (n % 10000))),
  St' ([u8 48, u8 48, u8 48, u8 48] ++ (digs 16 false (n % 10000))),
  St' ([u8 48, u8 48, u8 48, u8 48, u8 48] ++ (digs 10 false (n % 10000))),
  St' ([u8 48, u8 48, u8 48, u8 48, u8 48] ++ (digs 16 false (n % 10000))),
  St' ([u8 48, u8 48, u8 48, u8 48, u8 48, u8 48] ++ (digs 10 false (n % 10000))),
  St' ([u8 48, u8 48, u8 48, u8 48, u8 48, u8 48] ++ (digs 16 false (n % 10000))),
  St' ([u8 48, u8 48, u8 48, u8 48, u8 48, u8 48, u8 48] ++ (digs 10 false (n % 10000))),
  St' ([u8 48, u8 48, u8 48, u8 48, u8 48, u8 48, u8 48] ++ (digs 16 false (n % 10000))),
  .int .i64 (((digs 10 false (n % 10000)).length : Int) + 7),
  .int .i64 (((digs 16 false (n % 10000)).length : Int) + 7)]
theorem one14 (n : Int) (zeros : Int) : ∀ j, j < 1000000 → (nuL (nu14 n zeros) j).oneCell' = true := fun j _ => nuL_one (l := nu14 n zeros) rfl j
set_option maxHeartbeats 2000000 in
theorem hyOk14 (n : Int) (zeros : Int) (b0 : 0 ≤ n) (b1 : n ≤ 4294967295) (b2 : 0 ≤ zeros) (b3 : zeros ≤ 255) (h0 : zeros % 8 = 7) (h1 : 9 < ((digs 10 false (n % 10000)).length : Int) + 7) : ∀ k r, (k, r) ∈ hy14 → HOk (cx (nuL (nu14 n zeros)) (one14 n zeros) 0 laidE laidE_stab) k r := by
  have := digs_bd (B := 10) (big := false) (n % 10000)
  have := digs_dec4 (b := false) (k := n % 10000) (by omega) (by omega)
  have := digs_bd (B := 16) (big := false) (n % 10000)
  have := digs_hex4 (b := false) (k := n % 10000) (by omega) (by omega)
  unfold hy14
  refine hcons (kRem (isX rfl) (isZ (m := 10000) rfl) (denX rfl) (by omega) (by omega) rfl) ?_
  refine hcons (kConvF (isX rfl) tu3 (denX rfl) (fI64 (by omega) (by omega))) ?_
  refine hcons (kRem (isX rfl) (isZ (m := 8) rfl) (denZ (m := 7) rfl) (by omega) (by omega) (by omega)) ?_
  refine hcons (kCat (isSx (l := [u8 48]) 1 48 rfl) (isX rfl) (denX rfl) (by first | rfl | (simp; done)) (by first | omega | (simp <;> omega))) ?_
  refine hcons (kCat (isSx (l := [u8 48]) 1 48 rfl) (isX rfl) (denX rfl) (by first | rfl | (simp; done)) (by first | omega | (simp <;> omega))) ?_
  refine hcons (kCat (isSx (l := [u8 48]) 1 48 rfl) (isX rfl) (denX rfl) (by first | rfl | (simp; done)) (by first | omega | (simp <;> omega))) ?_
  refine hcons (kCat (isSx (l := [u8 48]) 1 48 rfl) (isX rfl) (denX rfl) (by first | rfl | (simp; done)) (by first | omega | (simp <;> omega))) ?_
  refine hcons (kCat (isSx (l := [u8 48]) 1 48 rfl) (isX rfl) (denX rfl) (by first | rfl | (simp; done)) (by first | omega | (simp <;> omega))) ?_
  refine hcons (kCat (isSx (l := [u8 48]) 1 48 rfl) (isX rfl) (denX rfl) (by first | rfl | (simp; done)) (by first | omega | (simp <;> omega))) ?_
  refine hcons (kCat (isSx (l := [u8 48]) 1 48 rfl) (isX rfl) (denX rfl) (by first | rfl | (simp; done)) (by first | omega | (simp <;> omega))) ?_
  refine hcons (kCat (isSx (l := [u8 48]) 1 48 rfl) (isX rfl) (denX rfl) (by first | rfl | (simp; done)) (by first | omega | (simp <;> omega))) ?_
  refine hcons (kCat (isSx (l := [u8 48]) 1 48 rfl) (isX rfl) (denX rfl) (by first | rfl | (simp; done)) (by first | omega | (simp <;> omega))) ?_
  refine hcons (kCat (isSx (l := [u8 48]) 1 48 rfl) (isX rfl) (denX rfl) (by first | rfl | (simp; done)) (by first | omega | (simp <;> omega))) ?_
  refine hcons (kCat (isSx (l := [u8 48]) 1 48 rfl) (isX rfl) (denX rfl) (by first | rfl | (simp; done)) (by first | omega | (simp <;> omega))) ?_
  refine hcons (kCat (isSx (l := [u8 48]) 1 48 rfl) (isX rfl) (denX rfl) (by first | rfl | (simp; done)) (by first | omega | (simp <;> omega))) ?_
  refine hcons (kCat (isSx (l := [u8 48]) 1 48 rfl) (isX rfl) (denX rfl) (by first | rfl | (simp; done)) (by first | omega | (simp <;> omega))) ?_
  refine hcons (kCat (isSx (l := [u8 48]) 1 48 rfl) (isX rfl) (denX rfl) (by first | rfl | (simp; done)) (by first | omega | (simp <;> omega))) ?_
  refine hcons (hokLong10 (s := ([u8 48, u8 48, u8 48, u8 48, u8 48, u8 48, u8 48] ++ (digs 10 false (n % 10000)))) (isX rfl) (isI .i64 10) (isI .i64 9) (denT2 (denI .i64 0) (denB false)) (by first | omega | (simp only [List.length_append, List.length_cons, List.length_nil]; omega)) (by first | omega | (simp only [List.length_append, List.length_cons, List.length_nil]; omega))) ?_
  refine hcons (hokLong16 (s := ([u8 48, u8 48, u8 48, u8 48, u8 48, u8 48, u8 48] ++ (digs 16 false (n % 10000)))) (isX rfl) (isI .i64 16) (isI .i64 7) (denT2 (denI .i64 0) (denB false)) (by first | omega | (simp only [List.length_append, List.length_cons, List.length_nil]; omega)) (by first | omega | (simp only [List.length_append, List.length_cons, List.length_nil]; omega))) ?_
  refine hcons (kLenE (isX rfl) (denX rfl) (by first | omega | (simp <;> omega))) ?_
  refine hcons (kLe (isX rfl) (isZ (m := 9) rfl) (decide_eq_false (by omega))) ?_
  refine hcons (kLenE (isX rfl) (denX rfl) (by first | omega | (simp <;> omega))) ?_
  refine hcons (kLe (isX rfl) (isZ (m := 7) rfl) (decide_eq_false (by omega))) ?_
  exact hnil
theorem path14 (n : Int) (zeros : Int) (b0 : 0 ≤ n) (b1 : n ≤ 4294967295) (b2 : 0 ≤ zeros) (b3 : zeros ≤ 255) (h0 : zeros % 8 = 7) (h1 : 9 < ((digs 10 false (n % 10000)).length : Int) + 7) (w : World) (hl : laidE w) : Calls Tryd.prog 5 #[.int .u32 n, .int .u8 zeros, .bool false] w fun e w' => e = .returned (.bool true) ∧ Go.AX.Below (Go.AX.Fz.lt w.heap.size) w w' := by
  have := digs_bd (B := 10) (big := false) (n % 10000)
  have := digs_dec4 (b := false) (k := n % 10000) (by omega) (by omega)
  have := digs_bd (B := 16) (big := false) (n % 10000)
  have := digs_hex4 (b := false) (k := n % 10000) (by omega) (by omega)
  obtain ⟨fi, hfi, hb⟩ : ∃ fi, tab14.fn.get 5 = some fi ∧ fi.body.isSome = true := ⟨_, (get_lps (by omega)), by show fi5.body.isSome = true; rw [fi5_body]; rfl⟩
  exact runP (tb := tab14) (AllOk.lp1 ((tabkOk (nuL (nu14 n zeros)) (one14 n zeros)).hyps (hyOk14 n zeros b0 b1 b2 b3 h0 h1)) (by omega) fi5_at fi5_body (lfCons ⟨0, keyLd, lfOkLd (T := (digs 10 false (n % 10000))) (f := 10002) (x := n % 10000) (s := []) (isSx (l := ([] : List UInt8)) 0 0 rfl) (isX rfl) (denX rfl) (by omega) (by omega) (fun _ => by omega) rfl (by simp)⟩ (lfCons ⟨1, keyLn, lfOkLn (T := (digs 16 false (n % 10000))) (f := 10002) (x := n % 10000) (s := []) (isSx (l := ([] : List UInt8)) 0 0 rfl) (isX rfl) (isB false) (denX rfl) (by omega) (by omega) (fun _ => by omega) rfl (by simp)⟩ lfNil))) rfl hfi hb (run14 ) (args := [.int .u32 n, .int .u8 zeros, .bool false]) (by simp only [RelL, Rel]; exact ⟨_, _, rfl, rfl, ⟨_, _, rfl, rfl, ⟨_, _, rfl, rfl, rfl⟩⟩⟩) w hl
def hy15 : List (HK × AV) := [(.bin .rem (.x 0) (.i .u32 (.ofNat 10000)), .x 2),
  (.conv 3 (.x 2), .x 3),
  (.bin .rem (.x 1) (.i .u8 (.ofNat 8)), .i .u8 (.ofNat 7)),
  (.bin .add (.s 1 48) (.x 4), .x 6),
  (.bin .add (.s 1 48) (.x 5), .x 7),
  (.bin .add (.s 1 48) (.x 6), .x 8),
  (.bin .add (.s 1 48) (.x 7), .x 9),
  (.bin .add (.s 1 48) (.x 8), .x 10),
  (.bin .add (.s 1 48) (.x 9), .x 11),
  (.bin .add (.s 1 48) (.x 10), .x 12),
  (.bin .add (.s 1 48) (.x 11), .x 13),
  (.bin .add (.s 1 48) (.x 12), .x 14),
  (.bin .add (.s 1 48) (.x 13), .x 15),
  (.bin .add (.s 1 48) (.x 14), .x 16),
  (.bin .add (.s 1 48) (.x 15), .x 17),
  (.bin .add (.s 1 48) (.x 16), .x 18),
  (.bin .add (.s 1 48) (.x 17), .x 19),
  (.call 55 [.x 18, .i .i64 (.ofNat 10), .i .i64 (.ofNat 9)], .tu [.i .i64 (.ofNat 0), .b false]),
  (.call 55 [.x 19, .i .i64 (.ofNat 16), .i .i64 (.ofNat 7)], .tu [.i .i64 (.ofNat 0), .b false]),
  (.len (.x 18), .x 20),
  (.bin .leq (.x 20) (.i .i64 (.ofNat 9)), .b false),
  (.len (.x 19), .x 21),
  (.bin .leq (.x 21) (.i .i64 (.ofNat 7)), .b false)]
noncomputable def tab15 : Tab := addLps ({ tabk with hyp := hy15 }) 5 fi5 [(lfLd (.s 0 0) (.x 3) (.x 4)), (lfLu (.s 0 0) (.x 3) (.b true) (.x 5))]
theorem run15 : okB (call tab15 9000 5 [.x 0, .x 1, .b true] ⟨H0 , 7, 0, 0⟩) = true := by kernel_rfl
def nu15 (n : Int) (zeros : Int) : List Value := [.int .u32 (n),
  .int .u8 (zeros),
  .int .u32 (n % 10000),
  .int .i64 ((n % 10000)),
  St' (digs 10 false (n % 10000)),
  St' (digs 16 true (n % 10000)),
  St' ([u8 48] ++ (digs 10 false (n % 10000))),
  St' ([u8 48] ++ (digs 16 true (n % 10000))),
  St' ([u8 48, u8 48] ++ (digs 10 false (n % 10000))),
  St' ([u8 48, u8 48] ++ (digs 16 true (n % 10000))),
  St' ([u8 48, u8 48, u8 48] ++ (digs 10 false (n % 10000))),
  St' ([u8 48, u8 48, u8 48] ++ (digs 16 true (n % 10000))),
  St' ([u8 48, u8 48, u8 48, u8 48] ++ (digs 10 false (n % 10000))),
  St' ([u8 48, u8 48, u8 48, u8 48] ++ (digs 16 true (n % 10000))),
  St' ([u8 48, u8 48, u8 48, u8 48, u8 48] ++ (digs 10 false (n % 10000))),
  St' ([u8 48, u8 48, u8 48, u8 48, u8 48] ++ (digs 16 true (n % 10000))),
  St' ([u8 48, u8 48, u8 48, u8 48, u8 48, u8 48] ++ (digs 10 false (n % 10000))),
  St' ([u8 48, u8 48, u8 48, u8 48, u8 48, u8 48] ++ (digs 16 true (n % 10000))),
  St' ([u8 48, u8 48, u8 48, u8 48, u8 48, u8 48, u8 48] ++ (digs 10 false (n % 10000))),
  St' ([u8 48, u8 48, u8 48, u8 48, u8 48, u8 48, u8 48] ++ (digs 16 true (n % 10000))),
  .int .i64 (((digs 10 false (n % 10000)).length : Int) + 7),
  .int .i64 (((digs 16 true (n % 10000)).length : Int) + 7)]
theorem one15 (n : Int) (zeros : Int) : ∀ j, j < 1000000 → (nuL (nu15 n zeros) j).oneCell' = true := fun j _ => nuL_one (l := nu15 n zeros) rfl j
set_option maxHeartbeats 2000000 in
theorem hyOk15 (n : Int) (zeros : Int) (b0 : 0 ≤ n) (b1 : n ≤ 4294967295) (b2 : 0 ≤ zeros) (b3 : zeros ≤ 255) (h0 : zeros % 8 = 7) (h1 : 9 < ((digs 10 false (n % 10000)).length : Int) + 7) : ∀ k r, (k, r) ∈ hy15 → HOk (cx (nuL (nu15 n zeros)) (one15 n zeros) 0 laidE laidE_stab) k r := by
  have := digs_bd (B := 10) (big := false) (n % 10000)
  have := digs_dec4 (b := false) (k := n % 10000) (by omega) (by omega)
  have := digs_bd (B := 16) (big := true) (n % 10000)
  have := digs_hex4 (b := true) (k := n % 10000) (by omega) (by omega)
  unfold hy15
  refine hcons (kRem (isX rfl) (isZ (m := 10000) rfl) (denX rfl) (by omega) (by omega) rfl) ?_
  refine hcons (kConvF (isX rfl) tu3 (denX rfl) (fI64 (by omega) (by omega))) ?_
  refine hcons (kRem (isX rfl) (isZ (m := 8) rfl) (denZ (m := 7) rfl) (by omega) (by omega) (by omega)) ?_
  refine hcons (kCat (isSx (l := [u8 48]) 1 48 rfl) (isX rfl) (denX rfl) (by first | rfl | (simp; done)) (by first | omega | (simp <;> omega))) ?_
  refine hcons (kCat (isSx (l := [u8 48]) 1 48 rfl) (isX rfl) (denX rfl) (by first | rfl | (simp; done)) (by first | omega | (simp <;> omega))) ?_
  refine hcons (kCat (isSx (l := [u8 48]) 1 48 rfl) (isX rfl) (denX rfl) (by first | rfl | (simp; done)) (by first | omega | (simp <;> omega))) ?_
  refine hcons (kCat (isSx (l := [u8 48]) 1 48 rfl) (isX rfl) (denX rfl) (by first | rfl | (simp; done)) (by first | omega | (simp <;> omega))) ?_
  refine hcons (kCat (isSx (l := [u8 48]) 1 48 rfl) (isX rfl) (denX rfl) (by first | rfl | (simp; done)) (by first | omega | (simp <;> omega))) ?_
  refine hcons (kCat (isSx (l := [u8 48]) 1 48 rfl) (isX rfl) (denX rfl) (by first | rfl | (simp; done)) (by first | omega | (simp <;> omega))) ?_
  refine hcons (kCat (isSx (l := [u8 48]) 1 48 rfl) (isX rfl) (denX rfl) (by first | rfl | (simp; done)) (by first | omega | (simp <;> omega))) ?_
  refine hcons (kCat (isSx (l := [u8 48]) 1 48 rfl) (isX rfl) (denX rfl) (by first | rfl | (simp; done)) (by first | omega | (simp <;> omega))) ?_
  refine hcons (kCat (isSx (l := [u8 48]) 1 48 rfl) (isX rfl) (denX rfl) (by first | rfl | (simp; done)) (by first | omega | (simp <;> omega))) ?_
  refine hcons (kCat (isSx (l := [u8 48]) 1 48 rfl) (isX rfl) (denX rfl) (by first | rfl | (simp; done)) (by first | omega | (simp <;> omega))) ?_
  refine hcons (kCat (isSx (l := [u8 48]) 1 48 rfl) (isX rfl) (denX rfl) (by first | rfl | (simp; done)) (by first | omega | (simp <;> omega))) ?_
  refine hcons (kCat (isSx (l := [u8 48]) 1 48 rfl) (isX rfl) (denX rfl) (by first | rfl | (simp; done)) (by first | omega | (simp <;> omega))) ?_
  refine hcons (kCat (isSx (l := [u8 48]) 1 48 rfl) (isX rfl) (denX rfl) (by first | rfl | (simp; done)) (by first | omega | (simp <;> omega))) ?_
  refine hcons (kCat (isSx (l := [u8 48]) 1 48 rfl) (isX rfl) (denX rfl) (by first | rfl | (simp; done)) (by first | omega | (simp <;> omega))) ?_
  refine hcons (hokLong10 (s := ([u8 48, u8 48, u8 48, u8 48, u8 48, u8 48, u8 48] ++ (digs 10 false (n % 10000)))) (isX rfl) (isI .i64 10) (isI .i64 9) (denT2 (denI .i64 0) (denB false)) (by first | omega | (simp only [List.length_append, List.length_cons, List.length_nil]; omega)) (by first | omega | (simp only [List.length_append, List.length_cons, List.length_nil]; omega))) ?_
  refine hcons (hokLong16 (s := ([u8 48, u8 48, u8 48, u8 48, u8 48, u8 48, u8 48] ++ (digs 16 true (n % 10000)))) (isX rfl) (isI .i64 16) (isI .i64 7) (denT2 (denI .i64 0) (denB false)) (by first | omega | (simp only [List.length_append, List.length_cons, List.length_nil]; omega)) (by first | omega | (simp only [List.length_append, List.length_cons, List.length_nil]; omega))) ?_
  refine hcons (kLenE (isX rfl) (denX rfl) (by first | omega | (simp <;> omega))) ?_
  refine hcons (kLe (isX rfl) (isZ (m := 9) rfl) (decide_eq_false (by omega))) ?_
  refine hcons (kLenE (isX rfl) (denX rfl) (by first | omega | (simp <;> omega))) ?_
  refine hcons (kLe (isX rfl) (isZ (m := 7) rfl) (decide_eq_false (by omega))) ?_
  exact hnil
theorem path15 (n : Int) (zeros : Int) (b0 : 0 ≤ n) (b1 : n ≤ 4294967295) (b2 : 0 ≤ zeros) (b3 : zeros ≤ 255) (h0 : zeros % 8 = 7) (h1 : 9 < ((digs 10 false (n % 10000)).length : Int) + 7) (w : World) (hl : laidE w) : Calls Tryd.prog 5 #[.int .u32 n, .int .u8 zeros, .bool true] w fun e w' => e = .returned (.bool true) ∧ Go.AX.Below (Go.AX.Fz.lt w.heap.size) w w' := by
  have := digs_bd (B := 10) (big := false) (n % 10000)
  have := digs_dec4 (b := false) (k := n % 10000) (by omega) (by omega)
  have := digs_bd (B := 16) (big := true) (n % 10000)
  have := digs_hex4 (b := true) (k := n % 10000) (by omega) (by omega)
  obtain ⟨fi, hfi, hb⟩ : ∃ fi, tab15.fn.get 5 = some fi ∧ fi.body.isSome = true := ⟨_, (get_lps (by omega)), by show fi5.body.isSome = true; rw [fi5_body]; rfl⟩
  exact runP (tb := tab15) (AllOk.lp1 ((tabkOk (nuL (nu15 n zeros)) (one15 n zeros)).hyps (hyOk15 n zeros b0 b1 b2 b3 h0 h1)) (by omega) fi5_at fi5_body (lfCons ⟨0, keyLd, lfOkLd (T := (digs 10 false (n % 10000))) (f := 10002) (x := n % 10000) (s := []) (isSx (l := ([] : List UInt8)) 0 0 rfl) (isX rfl) (denX rfl) (by omega) (by omega) (fun _ => by omega) rfl (by simp)⟩ (lfCons ⟨1, keyLu, lfOkLu (T := (digs 16 true (n % 10000))) (f := 10002) (x := n % 10000) (s := []) (isSx (l := ([] : List UInt8)) 0 0 rfl) (isX rfl) (isB true) (denX rfl) (by omega) (by omega) (fun _ => by omega) rfl (by simp)⟩ lfNil))) rfl hfi hb (run15 ) (args := [.int .u32 n, .int .u8 zeros, .bool true]) (by simp only [RelL, Rel]; exact ⟨_, _, rfl, rfl, ⟨_, _, rfl, rfl, ⟨_, _, rfl, rfl, rfl⟩⟩⟩) w hl
end Go.Proofs.YtacflaaahanhgaaDoor.octetNumbers
