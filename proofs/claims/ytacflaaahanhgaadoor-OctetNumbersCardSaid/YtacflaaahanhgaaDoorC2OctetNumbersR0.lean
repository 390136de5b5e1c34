/- A part of the proof: an interpreter of the model's own code on partly known states, and that what it answers is what the program answers. No condition of its own. -/
import Derived.Test.YtacflaaahanhgaaDoorC2OctetNumbersO
set_option maxRecDepth 100000
set_option linter.unusedVariables false
set_option linter.unusedSimpArgs false
namespace Go.Proofs.YtacflaaahanhgaaDoor.octetNumbers
open Go Go.AX Go.Proofs Go.Proofs.YtacflaaahanhgaaDoor
def hy0 : List (HK × AV) := [(.bin .rem (.x 0) (.i .u32 (.ofNat 10000)), .x 2),
  (.conv 3 (.x 2), .x 3),
  (.bin .rem (.x 1) (.i .u8 (.ofNat 8)), .i .u8 (.ofNat 0)),
  (.call 55 [.x 4, .i .i64 (.ofNat 10), .i .i64 (.ofNat 9)], .tu [.x 6, .b true]),
  (.call 55 [.x 5, .i .i64 (.ofNat 16), .i .i64 (.ofNat 7)], .tu [.x 7, .b true]),
  (.len (.x 4), .x 8),
  (.bin .leq (.x 8) (.i .i64 (.ofNat 9)), .b true),
  (.bin .eql (.x 6) (.x 3), .b true),
  (.len (.x 5), .x 9),
  (.bin .leq (.x 9) (.i .i64 (.ofNat 7)), .b true),
  (.bin .eql (.x 7) (.x 3), .b true)]
noncomputable def tab0 : Tab := addLps ({ tabk with hyp := hy0 }) 5 fi5 [(lfLd (.s 0 0) (.x 3) (.x 4)), (lfLn (.s 0 0) (.x 3) (.b false) (.x 5))]
theorem run0 : okB (call tab0 9000 5 [.x 0, .x 1, .b false] ⟨H0 , 7, 0, 0⟩) = true := by kernel_rfl
def nu0 (n : Int) (zeros : Int) : List Value := [.int .u32 (n),
  .int .u8 (zeros),
  .int .u32 (n % 10000),
  .int .i64 ((n % 10000)),
  St' (digs 10 false (n % 10000)),
  St' (digs 16 false (n % 10000)),
  .int .i64 (valF 10 (digs 10 false (n % 10000)) 0),
  .int .i64 (valF 16 (digs 16 false (n % 10000)) 0),
  .int .i64 (((digs 10 false (n % 10000)).length : Int)),
  .int .i64 (((digs 16 false (n % 10000)).length : Int))]
theorem one0 (n : Int) (zeros : Int) : ∀ j, j < 1000000 → (nuL (nu0 n zeros) j).oneCell' = true := fun j _ => nuL_one (l := nu0 n zeros) rfl j
set_option maxHeartbeats 2000000 in
theorem hyOk0 (n : Int) (zeros : Int) (b0 : 0 ≤ n) (b1 : n ≤ 4294967295) (b2 : 0 ≤ zeros) (b3 : zeros ≤ 255) (h0 : zeros % 8 = 0) : ∀ k r, (k, r) ∈ hy0 → HOk (cx (nuL (nu0 n zeros)) (one0 n zeros) 0 laidE laidE_stab) k r := by
  have := digs_bd (B := 10) (big := false) (n % 10000)
  have := digs_dec4 (b := false) (k := n % 10000) (by omega) (by omega)
  have := digs_bd (B := 16) (big := false) (n % 10000)
  have := digs_hex4 (b := false) (k := n % 10000) (by omega) (by omega)
  have : valF 10 (digs 10 false (n % 10000)) 0 = n % 10000 := val_dz (big := false) (.inl rfl) (k := n % 10000) (by omega) (by omega) 0
  have : valF 16 (digs 16 false (n % 10000)) 0 = n % 10000 := val_dz (big := false) (.inr rfl) (k := n % 10000) (by omega) (by omega) 0
  unfold hy0
  refine hcons (kRem (isX rfl) (isZ (m := 10000) rfl) (denX rfl) (by omega) (by omega) rfl) ?_
  refine hcons (kConvF (isX rfl) tu3 (denX rfl) (fI64 (by omega) (by omega))) ?_
  refine hcons (kRem (isX rfl) (isZ (m := 8) rfl) (denZ (m := 0) rfl) (by omega) (by omega) (by omega)) ?_
  refine hcons (hokNum10 (s := (digs 10 false (n % 10000))) (isX rfl) (isI .i64 10) (isI .i64 9) (denT2 (denX rfl) (denB true)) (by first | omega | (simp only [List.length_append, List.length_cons, List.length_nil]; omega)) (by first | omega | (simp only [List.length_append, List.length_cons, List.length_nil]; omega)) (by first | omega | (simp only [List.length_append, List.length_cons, List.length_nil]; omega)) (okD_dz (big := false) (.inl rfl) 0 (n % 10000))) ?_
  refine hcons (hokNum16 (s := (digs 16 false (n % 10000))) (isX rfl) (isI .i64 16) (isI .i64 7) (denT2 (denX rfl) (denB true)) (by first | omega | (simp only [List.length_append, List.length_cons, List.length_nil]; omega)) (by first | omega | (simp only [List.length_append, List.length_cons, List.length_nil]; omega)) (by first | omega | (simp only [List.length_append, List.length_cons, List.length_nil]; omega)) (okD_dz (big := false) (.inr rfl) 0 (n % 10000))) ?_
  refine hcons (kLenE (isX rfl) (denX rfl) (by first | omega | (simp <;> omega))) ?_
  refine hcons (kLe (isX rfl) (isZ (m := 9) rfl) (decide_eq_true (by omega))) ?_
  refine hcons (kEqI (isX rfl) (isX rfl) (decide_eq_true (by omega))) ?_
  refine hcons (kLenE (isX rfl) (denX rfl) (by first | omega | (simp <;> omega))) ?_
  refine hcons (kLe (isX rfl) (isZ (m := 7) rfl) (decide_eq_true (by omega))) ?_
  refine hcons (kEqI (isX rfl) (isX rfl) (decide_eq_true (by omega))) ?_
  exact hnil
theorem path0 (n : Int) (zeros : Int) (b0 : 0 ≤ n) (b1 : n ≤ 4294967295) (b2 : 0 ≤ zeros) (b3 : zeros ≤ 255) (h0 : zeros % 8 = 0) (w : World) (hl : laidE w) : Calls Tryd.prog 5 #[.int .u32 n, .int .u8 zeros, .bool false] w fun e w' => e = .returned (.bool true) ∧ Go.AX.Below (Go.AX.Fz.lt w.heap.size) w w' := by
  have := digs_bd (B := 10) (big := false) (n % 10000)
  have := digs_dec4 (b := false) (k := n % 10000) (by omega) (by omega)
  have := digs_bd (B := 16) (big := false) (n % 10000)
  have := digs_hex4 (b := false) (k := n % 10000) (by omega) (by omega)
  have : valF 10 (digs 10 false (n % 10000)) 0 = n % 10000 := val_dz (big := false) (.inl rfl) (k := n % 10000) (by omega) (by omega) 0
  have : valF 16 (digs 16 false (n % 10000)) 0 = n % 10000 := val_dz (big := false) (.inr rfl) (k := n % 10000) (by omega) (by omega) 0
  obtain ⟨fi, hfi, hb⟩ : ∃ fi, tab0.fn.get 5 = some fi ∧ fi.body.isSome = true := ⟨_, (get_lps (by omega)), by show fi5.body.isSome = true; rw [fi5_body]; rfl⟩
  exact runP (tb := tab0) (AllOk.lp1 ((tabkOk (nuL (nu0 n zeros)) (one0 n zeros)).hyps (hyOk0 n zeros b0 b1 b2 b3 h0)) (by omega) fi5_at fi5_body (lfCons ⟨0, keyLd, lfOkLd (T := (digs 10 false (n % 10000))) (f := 10002) (x := n % 10000) (s := []) (isSx (l := ([] : List UInt8)) 0 0 rfl) (isX rfl) (denX rfl) (by omega) (by omega) (fun _ => by omega) rfl (by simp)⟩ (lfCons ⟨1, keyLn, lfOkLn (T := (digs 16 false (n % 10000))) (f := 10002) (x := n % 10000) (s := []) (isSx (l := ([] : List UInt8)) 0 0 rfl) (isX rfl) (isB false) (denX rfl) (by omega) (by omega) (fun _ => by omega) rfl (by simp)⟩ lfNil))) rfl hfi hb (run0 ) (args := [.int .u32 n, .int .u8 zeros, .bool false]) (by simp only [RelL, Rel]; exact ⟨_, _, rfl, rfl, ⟨_, _, rfl, rfl, ⟨_, _, rfl, rfl, rfl⟩⟩⟩) w hl
def hy1 : List (HK × AV) := [(.bin .rem (.x 0) (.i .u32 (.ofNat 10000)), .x 2),
  (.conv 3 (.x 2), .x 3),
  (.bin .rem (.x 1) (.i .u8 (.ofNat 8)), .i .u8 (.ofNat 0)),
  (.call 55 [.x 4, .i .i64 (.ofNat 10), .i .i64 (.ofNat 9)], .tu [.x 6, .b true]),
  (.call 55 [.x 5, .i .i64 (.ofNat 16), .i .i64 (.ofNat 7)], .tu [.x 7, .b true]),
  (.len (.x 4), .x 8),
  (.bin .leq (.x 8) (.i .i64 (.ofNat 9)), .b true),
  (.bin .eql (.x 6) (.x 3), .b true),
  (.len (.x 5), .x 9),
  (.bin .leq (.x 9) (.i .i64 (.ofNat 7)), .b true),
  (.bin .eql (.x 7) (.x 3), .b true)]
noncomputable def tab1 : Tab := addLps ({ tabk with hyp := hy1 }) 5 fi5 [(lfLd (.s 0 0) (.x 3) (.x 4)), (lfLu (.s 0 0) (.x 3) (.b true) (.x 5))]
theorem run1 : okB (call tab1 9000 5 [.x 0, .x 1, .b true] ⟨H0 , 7, 0, 0⟩) = true := by kernel_rfl
def nu1 (n : Int) (zeros : Int) : List Value := [.int .u32 (n),
  .int .u8 (zeros),
  .int .u32 (n % 10000),
  .int .i64 ((n % 10000)),
  St' (digs 10 false (n % 10000)),
  St' (digs 16 true (n % 10000)),
  .int .i64 (valF 10 (digs 10 false (n % 10000)) 0),
  .int .i64 (valF 16 (digs 16 true (n % 10000)) 0),
  .int .i64 (((digs 10 false (n % 10000)).length : Int)),
  .int .i64 (((digs 16 true (n % 10000)).length : Int))]
theorem one1 (n : Int) (zeros : Int) : ∀ j, j < 1000000 → (nuL (nu1 n zeros) j).oneCell' = true := fun j _ => nuL_one (l := nu1 n zeros) rfl j
set_option maxHeartbeats 2000000 in
theorem hyOk1 (n : Int) (zeros : Int) (b0 : 0 ≤ n) (b1 : n ≤ 4294967295) (b2 : 0 ≤ zeros) (b3 : zeros ≤ 255) (h0 : zeros % 8 = 0) : ∀ k r, (k, r) ∈ hy1 → HOk (cx (nuL (nu1 n zeros)) (one1 n zeros) 0 laidE laidE_stab) k r := by
  have := digs_bd (B := 10) (big := false) (n % 10000)
  have := digs_dec4 (b := false) (k := n % 10000) (by omega) (by omega)
  have := digs_bd (B := 16) (big := true) (n % 10000)
  have := digs_hex4 (b := true) (k := n % 10000) (by omega) (by omega)
  have : valF 10 (digs 10 false (n % 10000)) 0 = n % 10000 := val_dz (big := false) (.inl rfl) (k := n % 10000) (by omega) (by omega) 0
  have : valF 16 (digs 16 true (n % 10000)) 0 = n % 10000 := val_dz (big := true) (.inr rfl) (k := n % 10000) (by omega) (by omega) 0
  unfold hy1
  refine hcons (kRem (isX rfl) (isZ (m := 10000) rfl) (denX rfl) (by omega) (by omega) rfl) ?_
  refine hcons (kConvF (isX rfl) tu3 (denX rfl) (fI64 (by omega) (by omega))) ?_
  refine hcons (kRem (isX rfl) (isZ (m := 8) rfl) (denZ (m := 0) rfl) (by omega) (by omega) (by omega)) ?_
  refine hcons (hokNum10 (s := (digs 10 false (n % 10000))) (isX rfl) (isI .i64 10) (isI .i64 9) (denT2 (denX rfl) (denB true)) (by first | omega | (simp only [List.length_append, List.length_cons, List.length_nil]; omega)) (by first | omega | (simp only [List.length_append, List.length_cons, List.length_nil]; omega)) (by first | omega | (simp only [List.length_append, List.length_cons, List.length_nil]; omega)) (okD_dz (big := false) (.inl rfl) 0 (n % 10000))) ?_
  refine hcons (hokNum16 (s := (digs 16 true (n % 10000))) (isX rfl) (isI .i64 16) (isI .i64 7) (denT2 (denX rfl) (denB true)) (by first | omega | (simp only [List.length_append, List.length_cons, List.length_nil]; omega)) (by first | omega | (simp only [List.length_append, List.length_cons, List.length_nil]; omega)) (by first | omega | (simp only [List.length_append, List.length_cons, List.length_nil]; omega)) (okD_dz (big := true) (.inr rfl) 0 (n % 10000))) ?_
  refine hcons (kLenE (isX rfl) (denX rfl) (by first | omega | (simp <;> omega))) ?_
  refine hcons (kLe (isX rfl) (isZ (m := 9) rfl) (decide_eq_true (by omega))) ?_
  refine hcons (kEqI (isX rfl) (isX rfl) (decide_eq_true (by omega))) ?_
  refine hcons (kLenE (isX rfl) (denX rfl) (by first | omega | (simp <;> omega))) ?_
  refine hcons (kLe (isX rfl) (isZ (m := 7) rfl) (decide_eq_true (by omega))) ?_
  refine hcons (kEqI (isX rfl) (isX rfl) (decide_eq_true (by omega))) ?_
  exact hnil
theorem path1 (n : Int) (zeros : Int) (b0 : 0 ≤ n) (b1 : n ≤ 4294967295) (b2 : 0 ≤ zeros) (b3 : zeros ≤ 255) (h0 : zeros % 8 = 0) (w : World) (hl : laidE w) : Calls Tryd.prog 5 #[.int .u32 n, .int .u8 zeros, .bool true] w fun e w' => e = .returned (.bool true) ∧ Go.AX.Below (Go.AX.Fz.lt w.heap.size) w w' := by
  have := digs_bd (B := 10) (big := false) (n % 10000)
  have := digs_dec4 (b := false) (k := n % 10000) (by omega) (by omega)
  have := digs_bd (B := 16) (big := true) (n % 10000)
  have := digs_hex4 (b := true) (k := n % 10000) (by omega) (by omega)
  have : valF 10 (digs 10 false (n % 10000)) 0 = n % 10000 := val_dz (big := false) (.inl rfl) (k := n % 10000) (by omega) (by omega) 0
  have : valF 16 (digs 16 true (n % 10000)) 0 = n % 10000 := val_dz (big := true) (.inr rfl) (k := n % 10000) (by omega) (by omega) 0
  obtain ⟨fi, hfi, hb⟩ : ∃ fi, tab1.fn.get 5 = some fi ∧ fi.body.isSome = true := ⟨_, (get_lps (by omega)), by show fi5.body.isSome = true; rw [fi5_body]; rfl⟩
  exact runP (tb := tab1) (AllOk.lp1 ((tabkOk (nuL (nu1 n zeros)) (one1 n zeros)).hyps (hyOk1 n zeros b0 b1 b2 b3 h0)) (by omega) fi5_at fi5_body (lfCons ⟨0, keyLd, lfOkLd (T := (digs 10 false (n % 10000))) (f := 10002) (x := n % 10000) (s := []) (isSx (l := ([] : List UInt8)) 0 0 rfl) (isX rfl) (denX rfl) (by omega) (by omega) (fun _ => by omega) rfl (by simp)⟩ (lfCons ⟨1, keyLu, lfOkLu (T := (digs 16 true (n % 10000))) (f := 10002) (x := n % 10000) (s := []) (isSx (l := ([] : List UInt8)) 0 0 rfl) (isX rfl) (isB true) (denX rfl) (by omega) (by omega) (fun _ => by omega) rfl (by simp)⟩ lfNil))) rfl hfi hb (run1 ) (args := [.int .u32 n, .int .u8 zeros, .bool true]) (by simp only [RelL, Rel]; exact ⟨_, _, rfl, rfl, ⟨_, _, rfl, rfl, ⟨_, _, rfl, rfl, rfl⟩⟩⟩) w hl
def hy2 : List (HK × AV) := [(.bin .rem (.x 0) (.i .u32 (.ofNat 10000)), .x 2),
  (.conv 3 (.x 2), .x 3),
  (.bin .rem (.x 1) (.i .u8 (.ofNat 8)), .i .u8 (.ofNat 1)),
  (.bin .add (.s 1 48) (.x 4), .x 6),
  (.bin .add (.s 1 48) (.x 5), .x 7),
  (.call 55 [.x 6, .i .i64 (.ofNat 10), .i .i64 (.ofNat 9)], .tu [.x 8, .b true]),
  (.call 55 [.x 7, .i .i64 (.ofNat 16), .i .i64 (.ofNat 7)], .tu [.x 9, .b true]),
  (.len (.x 6), .x 10),
  (.bin .leq (.x 10) (.i .i64 (.ofNat 9)), .b true),
  (.bin .eql (.x 8) (.x 3), .b true),
  (.len (.x 7), .x 11),
  (.bin .leq (.x 11) (.i .i64 (.ofNat 7)), .b true),
  (.bin .eql (.x 9) (.x 3), .b true)]
noncomputable def tab2 : Tab := addLps ({ tabk with hyp := hy2 }) 5 fi5 [(lfLd (.s 0 0) (.x 3) (.x 4)), (lfLn (.s 0 0) (.x 3) (.b false) (.x 5))]
theorem run2 : okB (call tab2 9000 5 [.x 0, .x 1, .b false] ⟨H0 , 7, 0, 0⟩) = true := by kernel_rfl
def nu2 (n : Int) (zeros : Int) : List Value := [.int .u32 (n),
  .int .u8 (zeros),
  .int .u32 (n % 10000),
  .int .i64 ((n % 10000)),
  St' (digs 10 false (n % 10000)),
  St' (digs 16 false (n % 10000)),
  St' ([u8 48] ++ (digs 10 false (n % 10000))),
  St' ([u8 48] ++ (digs 16 false (n % 10000))),
  .int .i64 (valF 10 ([u8 48] ++ (digs 10 false (n % 10000))) 0),
  .int .i64 (valF 16 ([u8 48] ++ (digs 16 false (n % 10000))) 0),
  .int .i64 (((digs 10 false (n % 10000)).length : Int) + 1),
  .int .i64 (((digs 16 false (n % 10000)).length : Int) + 1)]
theorem one2 (n : Int) (zeros : Int) : ∀ j, j < 1000000 → (nuL (nu2 n zeros) j).oneCell' = true := fun j _ => nuL_one (l := nu2 n zeros) rfl j
set_option maxHeartbeats 2000000 in
theorem hyOk2 (n : Int) (zeros : Int) (b0 : 0 ≤ n) (b1 : n ≤ 4294967295) (b2 : 0 ≤ zeros) (b3 : zeros ≤ 255) (h0 : zeros % 8 = 1) : ∀ k r, (k, r) ∈ hy2 → HOk (cx (nuL (nu2 n zeros)) (one2 n zeros) 0 laidE laidE_stab) k r := by
  have := digs_bd (B := 10) (big := false) (n % 10000)
  have := digs_dec4 (b := false) (k := n % 10000) (by omega) (by omega)
  have := digs_bd (B := 16) (big := false) (n % 10000)
  have := digs_hex4 (b := false) (k := n % 10000) (by omega) (by omega)
  have : valF 10 ([u8 48] ++ (digs 10 false (n % 10000))) 0 = n % 10000 := val_dz (big := false) (.inl rfl) (k := n % 10000) (by omega) (by omega) 1
  have : valF 16 ([u8 48] ++ (digs 16 false (n % 10000))) 0 = n % 10000 := val_dz (big := false) (.inr rfl) (k := n % 10000) (by omega) (by omega) 1
  unfold hy2
  refine hcons (kRem (isX rfl) (isZ (m := 10000) rfl) (denX rfl) (by omega) (by omega) rfl) ?_
  refine hcons (kConvF (isX rfl) tu3 (denX rfl) (fI64 (by omega) (by omega))) ?_
  refine hcons (kRem (isX rfl) (isZ (m := 8) rfl) (denZ (m := 1) rfl) (by omega) (by omega) (by omega)) ?_
  refine hcons (kCat (isSx (l := [u8 48]) 1 48 rfl) (isX rfl) (denX rfl) (by first | rfl | (simp; done)) (by first | omega | (simp <;> omega))) ?_
  refine hcons (kCat (isSx (l := [u8 48]) 1 48 rfl) (isX rfl) (denX rfl) (by first | rfl | (simp; done)) (by first | omega | (simp <;> omega))) ?_
  refine hcons (hokNum10 (s := ([u8 48] ++ (digs 10 false (n % 10000)))) (isX rfl) (isI .i64 10) (isI .i64 9) (denT2 (denX rfl) (denB true)) (by first | omega | (simp only [List.length_append, List.length_cons, List.length_nil]; omega)) (by first | omega | (simp only [List.length_append, List.length_cons, List.length_nil]; omega)) (by first | omega | (simp only [List.length_append, List.length_cons, List.length_nil]; omega)) (okD_dz (big := false) (.inl rfl) 1 (n % 10000))) ?_
  refine hcons (hokNum16 (s := ([u8 48] ++ (digs 16 false (n % 10000)))) (isX rfl) (isI .i64 16) (isI .i64 7) (denT2 (denX rfl) (denB true)) (by first | omega | (simp only [List.length_append, List.length_cons, List.length_nil]; omega)) (by first | omega | (simp only [List.length_append, List.length_cons, List.length_nil]; omega)) (by first | omega | (simp only [List.length_append, List.length_cons, List.length_nil]; omega)) (okD_dz (big := false) (.inr rfl) 1 (n % 10000))) ?_
  refine hcons (kLenE (isX rfl) (denX rfl) (by first | omega | (simp <;> omega))) ?_
  refine hcons (kLe (isX rfl) (isZ (m := 9) rfl) (decide_eq_true (by omega))) ?_
  refine hcons (kEqI (isX rfl) (isX rfl) (decide_eq_true (by omega))) ?_
  refine hcons (kLenE (isX rfl) (denX rfl) (by first | omega | (simp <;> omega))) ?_
  refine hcons (kLe (isX rfl) (isZ (m := 7) rfl) (decide_eq_true (by omega))) ?_
  refine hcons (kEqI (isX rfl) (isX rfl) (decide_eq_true (by omega))) ?_
  exact hnil
theorem path2 (n : Int) (zeros : Int) (b0 : 0 ≤ n) (b1 : n ≤ 4294967295) (b2 : 0 ≤ zeros) (b3 : zeros ≤ 255) (h0 : zeros % 8 = 1) (w : World) (hl : laidE w) : Calls Tryd.prog 5 #[.int .u32 n, .int .u8 zeros, .bool false] w fun e w' => e = .returned (.bool true) ∧ Go.AX.Below (Go.AX.Fz.lt w.heap.size) w w' := by
  have := digs_bd (B := 10) (big := false) (n % 10000)
  have := digs_dec4 (b := false) (k := n % 10000) (by omega) (by omega)
  have := digs_bd (B := 16) (big := false) (n % 10000)
  have := digs_hex4 (b := false) (k := n % 10000) (by omega) (by omega)
  have : valF 10 ([u8 48] ++ (digs 10 false (n % 10000))) 0 = n % 10000 := val_dz (big := false) (.inl rfl) (k := n % 10000) (by omega) (by omega) 1
  have : valF 16 ([u8 48] ++ (digs 16 false (n % 10000))) 0 = n % 10000 := val_dz (big := false) (.inr rfl) (k := n % 10000) (by omega) (by omega) 1
  obtain ⟨fi, hfi, hb⟩ : ∃ fi, tab2.fn.get 5 = some fi ∧ fi.body.isSome = true := ⟨_, (get_lps (by omega)), by show fi5.body.isSome = true; rw [fi5_body]; rfl⟩
  exact runP (tb := tab2) (AllOk.lp1 ((tabkOk (nuL (nu2 n zeros)) (one2 n zeros)).hyps (hyOk2 n zeros b0 b1 b2 b3 h0)) (by omega) fi5_at fi5_body (lfCons ⟨0, keyLd, lfOkLd (T := (digs 10 false (n % 10000))) (f := 10002) (x := n % 10000) (s := []) (isSx (l := ([] : List UInt8)) 0 0 rfl) (isX rfl) (denX rfl) (by omega) (by omega) (fun _ => by omega) rfl (by simp)⟩ (lfCons ⟨1, keyLn, lfOkLn (T := (digs 16 false (n % 10000))) (f := 10002) (x := n % 10000) (s := []) (isSx (l := ([] : List UInt8)) 0 0 rfl) (isX rfl) (isB false) (denX rfl) (by omega) (by omega) (fun _ => by omega) rfl (by simp)⟩ lfNil))) rfl hfi hb (run2 ) (args := [.int .u32 n, .int .u8 zeros, .bool false]) (by simp only [RelL, Rel]; exact ⟨_, _, rfl, rfl, ⟨_, _, rfl, rfl, ⟨_, _, rfl, rfl, rfl⟩⟩⟩) w hl
def hy3 : List (HK × AV) := [(.bin .rem (.x 0) (.i .u32 (.ofNat 10000)), .x 2),
  (.conv 3 (.x 2), .x 3),
  (.bin .rem (.x 1) (.i .u8 (.ofNat 8)), .i .u8 (.ofNat 1)),
  (.bin .add (.s 1 48) (.x 4), .x 6),
  (.bin .add (.s 1 48) (.x 5), .x 7),
  (.call 55 [.x 6, .i .i64 (.ofNat 10), .i .i64 (.ofNat 9)], .tu [.x 8, .b true]),
  (.call 55 [.x 7, .i .i64 (.ofNat 16), .i .i64 (.ofNat 7)], .tu [.x 9, .b true]),
  (.len (.x 6), .x 10),
  (.bin .leq (.x 10) (.i .i64 (.ofNat 9)), .b true),
  (.bin .eql (.x 8) (.x 3), .b true),
  (.len (.x 7), .x 11),
  (.bin .leq (.x 11) (.i .i64 (.ofNat 7)), .b true),
  (.bin .eql (.x 9) (.x 3), .b true)]
noncomputable def tab3 : Tab := addLps ({ tabk with hyp := hy3 }) 5 fi5 [(lfLd (.s 0 0) (.x 3) (.x 4)), (lfLu (.s 0 0) (.x 3) (.b true) (.x 5))]
theorem run3 : okB (call tab3 9000 5 [.x 0, .x 1, .b true] ⟨H0 , 7, 0, 0⟩) = true := by kernel_rfl
def nu3 (n : Int) (zeros : Int) : List Value := [.int .u32 (n),
  .int .u8 (zeros),
  .int .u32 (n % 10000),
  .int .i64 ((n % 10000)),
  St' (digs 10 false (n % 10000)),
  St' (digs 16 true (n % 10000)),
  St' ([u8 48] ++ (digs 10 false (n % 10000))),
  St' ([u8 48] ++ (digs 16 true (n % 10000))),
  .int .i64 (valF 10 ([u8 48] ++ (digs 10 false (n % 10000))) 0),
  .int .i64 (valF 16 ([u8 48] ++ (digs 16 true (n % 10000))) 0),
  .int .i64 (((digs 10 false (n % 10000)).length : Int) + 1),
  .int .i64 (((digs 16 true (n % 10000)).length : Int) + 1)]
theorem one3 (n : Int) (zeros : Int) : ∀ j, j < 1000000 → (nuL (nu3 n zeros) j).oneCell' = true := fun j _ => nuL_one (l := nu3 n zeros) rfl j
set_option maxHeartbeats 2000000 in
theorem hyOk3 (n : Int) (zeros : Int) (b0 : 0 ≤ n) (b1 : n ≤ 4294967295) (b2 : 0 ≤ zeros) (b3 : zeros ≤ 255) (h0 : zeros % 8 = 1) : ∀ k r, (k, r) ∈ hy3 → HOk (cx (nuL (nu3 n zeros)) (one3 n zeros) 0 laidE laidE_stab) k r := by
  have := digs_bd (B := 10) (big := false) (n % 10000)
  have := digs_dec4 (b := false) (k := n % 10000) (by omega) (by omega)
  have := digs_bd (B := 16) (big := true) (n % 10000)
  have := digs_hex4 (b := true) (k := n % 10000) (by omega) (by omega)
  have : valF 10 ([u8 48] ++ (digs 10 false (n % 10000))) 0 = n % 10000 := val_dz (big := false) (.inl rfl) (k := n % 10000) (by omega) (by omega) 1
  have : valF 16 ([u8 48] ++ (digs 16 true (n % 10000))) 0 = n % 10000 := val_dz (big := true) (.inr rfl) (k := n % 10000) (by omega) (by omega) 1
  unfold hy3
  refine hcons (kRem (isX rfl) (isZ (m := 10000) rfl) (denX rfl) (by omega) (by omega) rfl) ?_
  refine hcons (kConvF (isX rfl) tu3 (denX rfl) (fI64 (by omega) (by omega))) ?_
  refine hcons (kRem (isX rfl) (isZ (m := 8) rfl) (denZ (m := 1) rfl) (by omega) (by omega) (by omega)) ?_
  refine hcons (kCat (isSx (l := [u8 48]) 1 48 rfl) (isX rfl) (denX rfl) (by first | rfl | (simp; done)) (by first | omega | (simp <;> omega))) ?_
  refine hcons (kCat (isSx (l := [u8 48]) 1 48 rfl) (isX rfl) (denX rfl) (by first | rfl | (simp; done)) (by first | omega | (simp <;> omega))) ?_
  refine hcons (hokNum10 (s := ([u8 48] ++ (digs 10 false (n % 10000)))) (isX rfl) (isI .i64 10) (isI .i64 9) (denT2 (denX rfl) (denB true)) (by first | omega | (simp only [List.length_append, List.length_cons, List.length_nil]; omega)) (by first | omega | (simp only [List.length_append, List.length_cons, List.length_nil]; omega)) (by first | omega | (simp only [List.length_append, List.length_cons, List.length_nil]; omega)) (okD_dz (big := false) (.inl rfl) 1 (n % 10000))) ?_
  refine hcons (hokNum16 (s := ([u8 48] ++ (digs 16 true (n % 10000)))) (isX rfl) (isI .i64 16) (isI .i64 7) (denT2 (denX rfl) (denB true)) (by first | omega | (simp only [List.length_append, List.length_cons, List.length_nil]; omega)) (by first | omega | (simp only [List.length_append, List.length_cons, List.length_nil]; omega)) (by first | omega | (simp only [List.length_append, List.length_cons, List.length_nil]; omega)) (okD_dz (big := true) (.inr rfl) 1 (n % 10000))) ?_
  refine hcons (kLenE (isX rfl) (denX rfl) (by first | omega | (simp <;> omega))) ?_
  refine hcons (kLe (isX rfl) (isZ (m := 9) rfl) (decide_eq_true (by omega))) ?_
  refine hcons (kEqI (isX rfl) (isX rfl) (decide_eq_true (by omega))) ?_
  refine hcons (kLenE (isX rfl) (denX rfl) (by first | omega | (simp <;> omega))) ?_
  refine hcons (kLe (isX rfl) (isZ (m := 7) rfl) (decide_eq_true (by omega))) ?_
  refine hcons (kEqI (isX rfl) (isX rfl) (decide_eq_true (by omega))) ?_
  exact hnil
theorem path3 (n : Int) (zeros : Int) (b0 : 0 ≤ n) (b1 : n ≤ 4294967295) (b2 : 0 ≤ zeros) (b3 : zeros ≤ 255) (h0 : zeros % 8 = 1) (w : World) (hl : laidE w) : Calls Tryd.prog 5 #[.int .u32 n, .int .u8 zeros, .bool true] w fun e w' => e = .returned (.bool true) ∧ Go.AX.Below (Go.AX.Fz.lt w.heap.size) w w' := by
  have := digs_bd (B := 10) (big := false) (n % 10000)
  have := digs_dec4 (b := false) (k := n % 10000) (by omega) (by omega)
  have := digs_bd (B := 16) (big := true) (n % 10000)
  have := digs_hex4 (b := true) (k := n % 10000) (by omega) (by omega)
  have : valF 10 ([u8 48] ++ (digs 10 false (n % 10000))) 0 = n % 10000 := val_dz (big := false) (.inl rfl) (k := n % 10000) (by omega) (by omega) 1
  have : valF 16 ([u8 48] ++ (digs 16 true (n % 10000))) 0 = n % 10000 := val_dz (big := true) (.inr rfl) (k := n % 10000) (by omega) (by omega) 1
  obtain ⟨fi, hfi, hb⟩ : ∃ fi, tab3.fn.get 5 = some fi ∧ fi.body.isSome = true := ⟨_, (get_lps (by omega)), by show fi5.body.isSome = true; rw [fi5_body]; rfl⟩
  exact runP (tb := tab3) (AllOk.lp1 ((tabkOk (nuL (nu3 n zeros)) (one3 n zeros)).hyps (hyOk3 n zeros b0 b1 b2 b3 h0)) (by omega) fi5_at fi5_body (lfCons ⟨0, keyLd, lfOkLd (T := (digs 10 false (n % 10000))) (f := 10002) (x := n % 10000) (s := []) (isSx (l := ([] : List UInt8)) 0 0 rfl) (isX rfl) (denX rfl) (by omega) (by omega) (fun _ => by omega) rfl (by simp)⟩ (lfCons ⟨1, keyLu, lfOkLu (T := (digs 16 true (n % 10000))) (f := 10002) (x := n % 10000) (s := []) (isSx (l := ([] : List UInt8)) 0 0 rfl) (isX rfl) (isB true) (denX rfl) (by omega) (by omega) (fun _ => by omega) rfl (by simp)⟩ lfNil))) rfl hfi hb (run3 ) (args := [.int .u32 n, .int .u8 zeros, .bool true]) (by simp only [RelL, Rel]; exact ⟨_, _, rfl, rfl, ⟨_, _, rfl, rfl, ⟨_, _, rfl, rfl, rfl⟩⟩⟩) w hl
def hy4 : List (HK × AV) := [(.bin .rem (.x 0) (.i .u32 (.ofNat 10000)), .x 2),
  (.conv 3 (.x 2), .x 3),
  (.bin .rem (.x 1) (.i .u8 (.ofNat 8)), .i .u8 (.ofNat 2)),
  (.bin .add (.s 1 48) (.x 4), .x 6),
  (.bin .add (.s 1 48) (.x 5), .x 7),
  (.bin .add (.s 1 48) (.x 6), .x 8),
  (.bin .add (.s 1 48) (.x 7), .x 9),
  (.call 55 [.x 8, .i .i64 (.ofNat 10), .i .i64 (.ofNat 9)], .tu [.x 10, .b true]),
  (.call 55 [.x 9, .i .i64 (.ofNat 16), .i .i64 (.ofNat 7)], .tu [.x 11, .b true]),
  (.len (.x 8), .x 12),
  (.bin .leq (.x 12) (.i .i64 (.ofNat 9)), .b true),
  (.bin .eql (.x 10) (.x 3), .b true),
  (.len (.x 9), .x 13),
  (.bin .leq (.x 13) (.i .i64 (.ofNat 7)), .b true),
  (.bin .eql (.x 11) (.x 3), .b true)]
noncomputable def tab4 : Tab := addLps ({ tabk with hyp := hy4 }) 5 fi5 [(lfLd (.s 0 0) (.x 3) (.x 4)), (lfLn (.s 0 0) (.x 3) (.b false) (.x 5))]
theorem run4 : okB (call tab4 9000 5 [.x 0, .x 1, .b false] ⟨H0 , 7, 0, 0⟩) = true := by kernel_rfl
def nu4 (n : Int) (zeros : Int) : List Value := [.int .u32 (n),
  .int .u8 (zeros),
  .int .u32 (n % 10000),
  .int .i64 ((n % 10000)),
  St' (digs 10 false (n % 10000)),
  St' (digs 16 false (n % 10000)),
  St' ([u8 48] ++ (digs 10 false (n % 10000))),
  St' ([u8 48] ++ (digs 16 false (n % 10000))),
  St' ([u8 48, u8 48] ++ (digs 10 false (n % 10000))),
  St' ([u8 48, u8 48] ++ (digs 16 false (n % 10000))),
  .int .i64 (valF 10 ([u8 48, u8 48] ++ (digs 10 false (n % 10000))) 0),
  .int .i64 (valF 16 ([u8 48, u8 48] ++ (digs 16 false (n % 10000))) 0),
  .int .i64 (((digs 10 false (n % 10000)).length : Int) + 2),
  .int .i64 (((digs 16 false (n % 10000)).length : Int) + 2)]
theorem one4 (n : Int) (zeros : Int) : ∀ j, j < 1000000 → (nuL (nu4 n zeros) j).oneCell' = true := fun j _ => nuL_one (l := nu4 n zeros) rfl j
set_option maxHeartbeats 2000000 in
theorem hyOk4 (n : Int) (zeros : Int) (b0 : 0 ≤ n) (b1 : n ≤ 4294967295) (b2 : 0 ≤ zeros) (b3 : zeros ≤ 255) (h0 : zeros % 8 = 2) : ∀ k r, (k, r) ∈ hy4 → HOk (cx (nuL (nu4 n zeros)) (one4 n zeros) 0 laidE laidE_stab) k r := by
  have := digs_bd (B := 10) (big := false) (n % 10000)
  have := digs_dec4 (b := false) (k := n % 10000) (by omega) (by omega)
  have := digs_bd (B := 16) (big := false) (n % 10000)
  have := digs_hex4 (b := false) (k := n % 10000) (by omega) (by omega)
  have : valF 10 ([u8 48, u8 48] ++ (digs 10 false (n % 10000))) 0 = n % 10000 := val_dz (big := false) (.inl rfl) (k := n % 10000) (by omega) (by omega) 2
  have : valF 16 ([u8 48, u8 48] ++ (digs 16 false (n % 10000))) 0 = n % 10000 := val_dz (big := false) (.inr rfl) (k := n % 10000) (by omega) (by omega) 2
  unfold hy4
  refine hcons (kRem (isX rfl) (isZ (m := 10000) rfl) (denX rfl) (by omega) (by omega) rfl) ?_
  refine hcons (kConvF (isX rfl) tu3 (denX rfl) (fI64 (by omega) (by omega))) ?_
  refine hcons (kRem (isX rfl) (isZ (m := 8) rfl) (denZ (m := 2) rfl) (by omega) (by omega) (by omega)) ?_
  refine hcons (kCat (isSx (l := [u8 48]) 1 48 rfl) (isX rfl) (denX rfl) (by first | rfl | (simp; done)) (by first | omega | (simp <;> omega))) ?_
  refine hcons (kCat (isSx (l := [u8 48]) 1 48 rfl) (isX rfl) (denX rfl) (by first | rfl | (simp; done)) (by first | omega | (simp <;> omega))) ?_
  refine hcons (kCat (isSx (l := [u8 48]) 1 48 rfl) (isX rfl) (denX rfl) (by first | rfl | (simp; done)) (by first | omega | (simp <;> omega))) ?_
  refine hcons (kCat (isSx (l := [u8 48]) 1 48 rfl) (isX rfl) (denX rfl) (by first | rfl | (simp; done)) (by first | omega | (simp <;> omega))) ?_
  refine hcons (hokNum10 (s := ([u8 48, u8 48] ++ (digs 10 false (n % 10000)))) (isX rfl) (isI .i64 10) (isI .i64 9) (denT2 (denX rfl) (denB true)) (by first | omega | (simp only [List.length_append, List.length_cons, List.length_nil]; omega)) (by first | omega | (simp only [List.length_append, List.length_cons, List.length_nil]; omega)) (by first | omega | (simp only [List.length_append, List.length_cons, List.length_nil]; omega)) (okD_dz (big := false) (.inl rfl) 2 (n % 10000))) ?_
  refine hcons (hokNum16 (s := ([u8 48, u8 48] ++ (digs 16 false (n % 10000)))) (isX rfl) (isI .i64 16) (isI .i64 7) (denT2 (denX rfl) (denB true)) (by first | omega | (simp only [List.length_append, List.length_cons, List.length_nil]; omega)) (by first | omega | (simp only [List.length_append, List.length_cons, List.length_nil]; omega)) (by first | omega | (simp only [List.length_append, List.length_cons, List.length_nil]; omega)) (okD_dz (big := false) (.inr rfl) 2 (n % 10000))) ?_
  refine hcons (kLenE (isX rfl) (denX rfl) (by first | omega | (simp <;> omega))) ?_
  refine hcons (kLe (isX rfl) (isZ (m := 9) rfl) (decide_eq_true (by omega))) ?_
  refine hcons (kEqI (isX rfl) (isX rfl) (decide_eq_true (by omega))) ?_
  refine hcons (kLenE (isX rfl) (denX rfl) (by first | omega | (simp <;> omega))) ?_
  refine hcons (kLe (isX rfl) (isZ (m := 7) rfl) (decide_eq_true (by omega))) ?_
  refine hcons (kEqI (isX rfl) (isX rfl) (decide_eq_true (by omega))) ?_
  exact hnil
theorem path4 (n : Int) (zeros : Int) (b0 : 0 ≤ n) (b1 : n ≤ 4294967295) (b2 : 0 ≤ zeros) (b3 : zeros ≤ 255) (h0 : zeros % 8 = 2) (w : World) (hl : laidE w) : Calls Tryd.prog 5 #[.int .u32 n, .int .u8 zeros, .bool false] w fun e w' => e = .returned (.bool true) ∧ Go.AX.Below (Go.AX.Fz.lt w.heap.size) w w' := by
  have := digs_bd (B := 10) (big := false) (n % 10000)
  have := digs_dec4 (b := false) (k := n % 10000) (by omega) (by omega)
  have := digs_bd (B := 16) (big := false) (n % 10000)
  have := digs_hex4 (b := false) (k := n % 10000) (by omega) (by omega)
  have : valF 10 ([u8 48, u8 48] ++ (digs 10 false (n % 10000))) 0 = n % 10000 := val_dz (big := false) (.inl rfl) (k := n % 10000) (by omega) (by omega) 2
  have : valF 16 ([u8 48, u8 48] ++ (digs 16 false (n % 10000))) 0 = n % 10000 := val_dz (big := false) (.inr rfl) (k := n % 10000) (by omega) (by omega) 2
  obtain ⟨fi, hfi, hb⟩ : ∃ fi, tab4.fn.get 5 = some fi ∧ fi.body.isSome = true := ⟨_, (get_lps (by omega)), by show fi5.body.isSome = true; rw [fi5_body]; rfl⟩
  exact runP (tb := tab4) (AllOk.lp1 ((tabkOk (nuL (nu4 n zeros)) (one4 n zeros)).hyps (hyOk4 n zeros b0 b1 b2 b3 h0)) (by omega) fi5_at fi5_body (lfCons ⟨0, keyLd, lfOkLd (T := (digs 10 false (n % 10000))) (f := 10002) (x := n % 10000) (s := []) (isSx (l := ([] : List UInt8)) 0 0 rfl) (isX rfl) (denX rfl) (by omega) (by omega) (fun _ => by omega) rfl (by simp)⟩ (lfCons ⟨1, keyLn, lfOkLn (T := (digs 16 false (n % 10000))) (f := 10002) (x := n % 10000) (s := []) (isSx (l := ([] : List UInt8)) 0 0 rfl) (isX rfl) (isB false) (denX rfl) (by omega) (by omega) (fun _ => by omega) rfl (by simp)⟩ lfNil))) rfl hfi hb (run4 ) (args := [.int .u32 n, .int .u8 zeros, .bool false]) (by simp only [RelL, Rel]; exact ⟨_, _, rfl, rfl, ⟨_, _, rfl, rfl, ⟨_, _, rfl, rfl, rfl⟩⟩⟩) w hl
def hy5 : List (HK × AV) := [(.bin .rem (.x 0) (.i .u32 (.ofNat 10000)), .x 2),
  (.conv 3 (.x 2), .x 3),
  (.bin .rem (.x 1) (.i .u8 (.ofNat 8)), .i .u8 (.ofNat 2)),
  (.bin .add (.s 1 48) (.x 4), .x 6),
  (.bin .add (.s 1 48) (.x 5), .x 7),
  (.bin .add (.s 1 48) (.x 6), .x 8),
  (.bin .add (.s 1 48) (.x 7), .x 9),
  (.call 55 [.x 8, .i .i64 (.ofNat 10), .i .i64 (.ofNat 9)], .tu [.x 10, .b true]),
  (.call 55 [.x 9, .i .i64 (.ofNat 16), .i .i64 (.ofNat 7)], .tu [.x 11, .b true]),
  (.len (.x 8), .x 12),
  (.bin .leq (.x 12) (.i .i64 (.ofNat 9)), .b true),
  (.bin .eql (.x 10) (.x 3), .b true),
  (.len (.x 9), .x 13),
  (.bin .leq (.x 13) (.i .i64 (.ofNat 7)), .b true),
  (.bin .eql (.x 11) (.x 3), .b true)]
noncomputable def tab5 : Tab := addLps ({ tabk with hyp := hy5 }) 5 fi5 [(lfLd (.s 0 0) (.x 3) (.x 4)), (lfLu (.s 0 0) (.x 3) (.b true) (.x 5))]
theorem run5 : okB (call tab5 9000 5 [.x 0, .x 1, .b true] ⟨H0 , 7, 0, 0⟩) = true := by kernel_rfl
def nu5 (n : Int) (zeros : Int) : List Value := [.int .u32 (n),
  .int .u8 (zeros),
  .int .u32 (n % 10000),
  .int .i64 ((n % 10000)),
  St' (digs 10 false (n % 10000)),
  St' (digs 16 true (n % 10000)),
  St' ([u8 48] ++ (digs 10 false (n % 10000))),
  St' ([u8 48] ++ (digs 16 true (n % 10000))),
  St' ([u8 48, u8 48] ++ (digs 10 false (n % 10000))),
  St' ([u8 48, u8 48] ++ (digs 16 true (n % 10000))),
  .int .i64 (valF 10 ([u8 48, u8 48] ++ (digs 10 false (n % 10000))) 0),
  .int .i64 (valF 16 ([u8 48, u8 48] ++ (digs 16 true (n % 10000))) 0),
  .int .i64 (((digs 10 false (n % 10000)).length : Int) + 2),
  .int .i64 (((digs 16 true (n % 10000)).length : Int) + 2)]
theorem one5 (n : Int) (zeros : Int) : ∀ j, j < 1000000 → (nuL (nu5 n zeros) j).oneCell' = true := fun j _ => nuL_one (l := nu5 n zeros) rfl j
set_option maxHeartbeats 2000000 in
theorem hyOk5 (n : Int) (zeros : Int) (b0 : 0 ≤ n) (b1 : n ≤ 4294967295) (b2 : 0 ≤ zeros) (b3 : zeros ≤ 255) (h0 : zeros % 8 = 2) : ∀ k r, (k, r) ∈ hy5 → HOk (cx (nuL (nu5 n zeros)) (one5 n zeros) 0 laidE laidE_stab) k r := by
  have := digs_bd (B := 10) (big := false) (n % 10000)
  have := digs_dec4 (b := false) (k := n % 10000) (by omega) (by omega)
  have := digs_bd (B := 16) (big := true) (n % 10000)
  have := digs_hex4 (b := true) (k := n % 10000) (by omega) (by omega)
  have : valF 10 ([u8 48, u8 48] ++ (digs 10 false (n % 10000))) 0 = n % 10000 := val_dz (big := false) (.inl rfl) (k := n % 10000) (by omega) (by omega) 2
  have : valF 16 ([u8 48, u8 48] ++ (digs 16 true (n % 10000))) 0 = n % 10000 := val_dz (big := true) (.inr rfl) (k := n % 10000) (by omega) (by omega) 2
  unfold hy5
  refine hcons (kRem (isX rfl) (isZ (m := 10000) rfl) (denX rfl) (by omega) (by omega) rfl) ?_
  refine hcons (kConvF (isX rfl) tu3 (denX rfl) (fI64 (by omega) (by omega))) ?_
  refine hcons (kRem (isX rfl) (isZ (m := 8) rfl) (denZ (m := 2) rfl) (by omega) (by omega) (by omega)) ?_
  refine hcons (kCat (isSx (l := [u8 48]) 1 48 rfl) (isX rfl) (denX rfl) (by first | rfl | (simp; done)) (by first | omega | (simp <;> omega))) ?_
  refine hcons (kCat (isSx (l := [u8 48]) 1 48 rfl) (isX rfl) (denX rfl) (by first | rfl | (simp; done)) (by first | omega | (simp <;> omega))) ?_
  refine hcons (kCat (isSx (l := [u8 48]) 1 48 rfl) (isX rfl) (denX rfl) (by first | rfl | (simp; done)) (by first | omega | (simp <;> omega))) ?_
  refine hcons (kCat (isSx (l := [u8 48]) 1 48 rfl) (isX rfl) (denX rfl) (by first | rfl | (simp; done)) (by first | omega | (simp <;> omega))) ?_
  refine hcons (hokNum10 (s := ([u8 48, u8 48] ++ (digs 10 false (n % 10000)))) (isX rfl) (isI .i64 10) (isI .i64 9) (denT2 (denX rfl) (denB true)) (by first | omega | (simp only [List.length_append, List.length_cons, List.length_nil]; omega)) (by first | omega | (simp only [List.length_append, List.length_cons, List.length_nil]; omega)) (by first | omega | (simp only [List.length_append, List.length_cons, List.length_nil]; omega)) (okD_dz (big := false) (.inl rfl) 2 (n % 10000))) ?_
  refine hcons (hokNum16 (s := ([u8 48, u8 48] ++ (digs 16 true (n % 10000)))) (isX rfl) (isI .i64 16) (isI .i64 7) (denT2 (denX rfl) (denB true)) (by first | omega | (simp only [List.length_append, List.length_cons, List.length_nil]; omega)) (by first | omega | (simp only [List.length_append, List.length_cons, List.length_nil]; omega)) (by first | omega | (simp only [List.length_append, List.length_cons, List.length_nil]; omega)) (okD_dz (big := true) (.inr rfl) 2 (n % 10000))) ?_
  refine hcons (kLenE (isX rfl) (denX rfl) (by first | omega | (simp <;> omega))) ?_
  refine hcons (kLe (isX rfl) (isZ (m := 9) rfl) (decide_eq_true (by omega))) ?_
  refine hcons (kEqI (isX rfl) (isX rfl) (decide_eq_true (by omega))) ?_
  refine hcons (kLenE (isX rfl) (denX rfl) (by first | omega | (simp <;> omega))) ?_
  refine hcons (kLe (isX rfl) (isZ (m := 7) rfl) (decide_eq_true (by omega))) ?_
  refine hcons (kEqI (isX rfl) (isX rfl) (decide_eq_true (by omega))) ?_
  exact hnil
theorem path5 (n : Int) (zeros : Int) (b0 : 0 ≤ n) (b1 : n ≤ 4294967295) (b2 : 0 ≤ zeros) (b3 : zeros ≤ 255) (h0 : zeros % 8 = 2) (w : World) (hl : laidE w) : Calls Tryd.prog 5 #[.int .u32 n, .int .u8 zeros, .bool true] w fun e w' => e = .returned (.bool true) ∧ Go.AX.Below (Go.AX.Fz.lt w.heap.size) w w' := by
  have := digs_bd (B := 10) (big := false) (n % 10000)
  have := digs_dec4 (b := false) (k := n % 10000) (by omega) (by omega)
  have := digs_bd (B := 16) (big := true) (n % 10000)
  have := digs_hex4 (b := true) (k := n % 10000) (by omega) (by omega)
  have : valF 10 ([u8 48, u8 48] ++ (digs 10 false (n % 10000))) 0 = n % 10000 := val_dz (big := false) (.inl rfl) (k := n % 10000) (by omega) (by omega) 2
  have : valF 16 ([u8 48, u8 48] ++ (digs 16 true (n % 10000))) 0 = n % 10000 := val_dz (big := true) (.inr rfl) (k := n % 10000) (by omega) (by omega) 2
  obtain ⟨fi, hfi, hb⟩ : ∃ fi, tab5.fn.get 5 = some fi ∧ fi.body.isSome = true := ⟨_, (get_lps (by omega)), by show fi5.body.isSome = true; rw [fi5_body]; rfl⟩
  exact runP (tb := tab5) (AllOk.lp1 ((tabkOk (nuL (nu5 n zeros)) (one5 n zeros)).hyps (hyOk5 n zeros b0 b1 b2 b3 h0)) (by omega) fi5_at fi5_body (lfCons ⟨0, keyLd, lfOkLd (T := (digs 10 false (n % 10000))) (f := 10002) (x := n % 10000) (s := []) (isSx (l := ([] : List UInt8)) 0 0 rfl) (isX rfl) (denX rfl) (by omega) (by omega) (fun _ => by omega) rfl (by simp)⟩ (lfCons ⟨1, keyLu, lfOkLu (T := (digs 16 true (n % 10000))) (f := 10002) (x := n % 10000) (s := []) (isSx (l := ([] : List UInt8)) 0 0 rfl) (isX rfl) (isB true) (denX rfl) (by omega) (by omega) (fun _ => by omega) rfl (by simp)⟩ lfNil))) rfl hfi hb (run5 ) (args := [.int .u32 n, .int .u8 zeros, .bool true]) (by simp only [RelL, Rel]; exact ⟨_, _, rfl, rfl, ⟨_, _, rfl, rfl, ⟨_, _, rfl, rfl, rfl⟩⟩⟩) w hl
def hy6 : List (HK × AV) := [(.bin .rem (.x 0) (.i .u32 (.ofNat 10000)), .x 2),
  (.conv 3 (.x 2), .x 3),
  (.bin .rem (.x 1) (.i .u8 (.ofNat 8)), .i .u8 (.ofNat 3)),
  (.bin .add (.s 1 48) (.x 4), .x 6),
  (.bin .add (.s 1 48) (.x 5), .x 7),
  (.bin .add (.s 1 48) (.x 6), .x 8),
  (.bin .add (.s 1 48) (.x 7), .x 9),
  (.bin .add (.s 1 48) (.x 8), .x 10),
  (.bin .add (.s 1 48) (.x 9), .x 11),
  (.call 55 [.x 10, .i .i64 (.ofNat 10), .i .i64 (.ofNat 9)], .tu [.x 12, .b true]),
  (.call 55 [.x 11, .i .i64 (.ofNat 16), .i .i64 (.ofNat 7)], .tu [.x 13, .b true]),
  (.len (.x 10), .x 14),
  (.bin .leq (.x 14) (.i .i64 (.ofNat 9)), .b true),
  (.bin .eql (.x 12) (.x 3), .b true),
  (.len (.x 11), .x 15),
  (.bin .leq (.x 15) (.i .i64 (.ofNat 7)), .b true),
  (.bin .eql (.x 13) (.x 3), .b true)]
noncomputable def tab6 : Tab := addLps ({ tabk with hyp := hy6 }) 5 fi5 [(lfLd (.s 0 0) (.x 3) (.x 4)), (lfLn (.s 0 0) (.x 3) (.b false) (.x 5))]
theorem run6 : okB (call tab6 9000 5 [.x 0, .x 1, .b false] ⟨H0 , 7, 0, 0⟩) = true := by kernel_rfl
def nu6 (n : Int) (zeros : Int) : List Value := [.int .u32 (n),
  .int .u8 (zeros),
  .int .u32 (n % 10000),
  .int .i64 ((n % 10000)),
  St' (digs 10 false (n % 10000)),
  St' (digs 16 false (n % 10000)),
  St' ([u8 48] ++ (digs 10 false (n % 10000))),
  St' ([u8 48] ++ (digs 16 false (n % 10000))),
  St' ([u8 48, u8 48] ++ (digs 10 false (n % 10000))),
  St' ([u8 48, u8 48] ++ (digs 16 false (n % 10000))),
  St' ([u8 48, u8 48, u8 48] ++ (digs 10 false (n % 10000))),
  St' ([u8 48, u8 48, u8 48] ++ (digs 16 false (n % 10000))),
  .int .i64 (valF 10 ([u8 48, u8 48, u8 48] ++ (digs 10 false (n % 10000))) 0),
  .int .i64 (valF 16 ([u8 48, u8 48, u8 48] ++ (digs 16 false (n % 10000))) 0),
  .int .i64 (((digs 10 false (n % 10000)).length : Int) + 3),
  .int .i64 (((digs 16 false (n % 10000)).length : Int) + 3)]
theorem one6 (n : Int) (zeros : Int) : ∀ j, j < 1000000 → (nuL (nu6 n zeros) j).oneCell' = true := fun j _ => nuL_one (l := nu6 n zeros) rfl j
set_option maxHeartbeats 2000000 in
theorem hyOk6 (n : Int) (zeros : Int) (b0 : 0 ≤ n) (b1 : n ≤ 4294967295) (b2 : 0 ≤ zeros) (b3 : zeros ≤ 255) (h0 : zeros % 8 = 3) : ∀ k r, (k, r) ∈ hy6 → HOk (cx (nuL (nu6 n zeros)) (one6 n zeros) 0 laidE laidE_stab) k r := by
  have := digs_bd (B := 10) (big := false) (n % 10000)
  have := digs_dec4 (b := false) (k := n % 10000) (by omega) (by omega)
  have := digs_bd (B := 16) (big := false) (n % 10000)
  have := digs_hex4 (b := false) (k := n % 10000) (by omega) (by omega)
  have : valF 10 ([u8 48, u8 48, u8 48] ++ (digs 10 false (n % 10000))) 0 = n % 10000 := val_dz (big := false) (.inl rfl) (k := n % 10000) (by omega) (by omega) 3
  have : valF 16 ([u8 48, u8 48, u8 48] ++ (digs 16 false (n % 10000))) 0 = n % 10000 := val_dz (big := false) (.inr rfl) (k := n % 10000) (by omega) (by omega) 3
  unfold hy6
  refine hcons (kRem (isX rfl) (isZ (m := 10000) rfl) (denX rfl) (by omega) (by omega) rfl) ?_
  refine hcons (kConvF (isX rfl) tu3 (denX rfl) (fI64 (by omega) (by omega))) ?_
  refine hcons (kRem (isX rfl) (isZ (m := 8) rfl) (denZ (m := 3) rfl) (by omega) (by omega) (by omega)) ?_
  refine hcons (kCat (isSx (l := [u8 48]) 1 48 rfl) (isX rfl) (denX rfl) (by first | rfl | (simp; done)) (by first | omega | (simp <;> omega))) ?_
  refine hcons (kCat (isSx (l := [u8 48]) 1 48 rfl) (isX rfl) (denX rfl) (by first | rfl | (simp; done)) (by first | omega | (simp <;> omega))) ?_
  refine hcons (kCat (isSx (l := [u8 48]) 1 48 rfl) (isX rfl) (denX rfl) (by first | rfl | (simp; done)) (by first | omega | (simp <;> omega))) ?_
  refine hcons (kCat (isSx (l := [u8 48]) 1 48 rfl) (isX rfl) (denX rfl) (by first | rfl | (simp; done)) (by first | omega | (simp <;> omega))) ?_
  refine hcons (kCat (isSx (l := [u8 48]) 1 48 rfl) (isX rfl) (denX rfl) (by first | rfl | (simp; done)) (by first | omega | (simp <;> omega))) ?_
  refine hcons (kCat (isSx (l := [u8 48]) 1 48 rfl) (isX rfl) (denX rfl) (by first | rfl | (simp; done)) (by first | omega | (simp <;> omega))) ?_
  refine hcons (hokNum10 (s := ([u8 48, u8 48, u8 48] ++ (digs 10 false (n % 10000)))) (isX rfl) (isI .i64 10) (isI .i64 9) (denT2 (denX rfl) (denB true)) (by first | omega | (simp only [List.length_append, List.length_cons, List.length_nil]; omega)) (by first | omega | (simp only [List.length_append, List.length_cons, List.length_nil]; omega)) (by first | omega | (simp only [List.length_append, List.length_cons, List.length_nil]; omega)) (okD_dz (big := false) (.inl rfl) 3 (n % 10000))) ?_
  refine hcons (hokNum16 (s := ([u8 48, u8 48, u8 48] ++ (digs 16 false (n % 10000)))) (isX rfl) (isI .i64 16) (isI .i64 7) (denT2 (denX rfl) (denB true)) (by first | omega | (simp only [List.length_append, List.length_cons, List.length_nil]; omega)) (by first | omega | (simp only [List.length_append, List.length_cons, List.length_nil]; omega)) (by first | omega | (simp only [List.length_append, List.length_cons, List.length_nil]; omega)) (okD_dz (big := false) (.inr rfl) 3 (n % 10000))) ?_
  refine hcons (kLenE (isX rfl) (denX rfl) (by first | omega | (simp <;> omega))) ?_
  refine hcons (kLe (isX rfl) (isZ (m := 9) rfl) (decide_eq_true (by omega))) ?_
  refine hcons (kEqI (isX rfl) (isX rfl) (decide_eq_true (by omega))) ?_
  refine hcons (kLenE (isX rfl) (denX rfl) (by first | omega | (simp <;> omega))) ?_
  refine hcons (kLe (isX rfl) (isZ (m := 7) rfl) (decide_eq_true (by omega))) ?_
  refine hcons (kEqI (isX rfl) (isX rfl) (decide_eq_true (by omega))) ?_
  exact hnil
theorem path6 (n : Int) (zeros : Int) (b0 : 0 ≤ n) (b1 : n ≤ 4294967295) (b2 : 0 ≤ zeros) (b3 : zeros ≤ 255) (h0 : zeros % 8 = 3) (w : World) (hl : laidE w) : Calls Tryd.prog 5 #[.int .u32 n, .int .u8 zeros, .bool false] w fun e w' => e = .returned (.bool true) ∧ Go.AX.Below (Go.AX.Fz.lt w.heap.size) w w' := by
  have := digs_bd (B := 10) (big := false) (n % 10000)
  have := digs_dec4 (b := false) (k := n % 10000) (by omega) (by omega)
  have := digs_bd (B := 16) (big := false) (n % 10000)
  have := digs_hex4 (b := false) (k := n % 10000) (by omega) (by omega)
  have : valF 10 ([u8 48, u8 48, u8 48] ++ (digs 10 false (n % 10000))) 0 = n % 10000 := val_dz (big := false) (.inl rfl) (k := n % 10000) (by omega) (by omega) 3
  have : valF 16 ([u8 48, u8 48, u8 48] ++ (digs 16 false (n % 10000))) 0 = n % 10000 := val_dz (big := false) (.inr rfl) (k := n % 10000) (by omega) (by omega) 3
  obtain ⟨fi, hfi, hb⟩ : ∃ fi, tab6.fn.get 5 = some fi ∧ fi.body.isSome = true := ⟨_, (get_lps (by omega)), by show fi5.body.isSome = true; rw [fi5_body]; rfl⟩
  exact runP (tb := tab6) (AllOk.lp1 ((tabkOk (nuL (nu6 n zeros)) (one6 n zeros)).hyps (hyOk6 n zeros b0 b1 b2 b3 h0)) (by omega) fi5_at fi5_body (lfCons ⟨0, keyLd, lfOkLd (T := (digs 10 false (n % 10000))) (f := 10002) (x := n % 10000) (s := []) (isSx (l := ([] : List UInt8)) 0 0 rfl) (isX rfl) (denX rfl) (by omega) (by omega) (fun _ => by omega) rfl (by simp)⟩ (lfCons ⟨1, keyLn, lfOkLn (T := (digs 16 false (n % 10000))) (f := 10002) (x := n % 10000) (s := []) (isSx (l := ([] : List UInt8)) 0 0 rfl) (isX rfl) (isB false) (denX rfl) (by omega) (by omega) (fun _ => by omega) rfl (by simp)⟩ lfNil))) rfl hfi hb (run6 ) (args := [.int .u32 n, .int .u8 zeros, .bool false]) (by simp only [RelL, Rel]; exact ⟨_, _, rfl, rfl, ⟨_, _, rfl, rfl, ⟨_, _, rfl, rfl, rfl⟩⟩⟩) w hl
def hy7 : List (HK × AV) := [(.bin .rem (.x 0) (.i .u32 (.ofNat 10000)), .x 2),
  (.conv 3 (.x 2), .x 3),
  (.bin .rem (.x 1) (.i .u8 (.ofNat 8)), .i .u8 (.ofNat 3)),
  (.bin .add (.s 1 48) (.x 4), .x 6),
  (.bin .add (.s 1 48) (.x 5), .x 7),
  (.bin .add (.s 1 48) (.x 6), .x 8),
  (.bin .add (.s 1 48) (.x 7), .x 9),
  (.bin .add (.s 1 48) (.x 8), .x 10),
  (.bin .add (.s 1 48) (.x 9), .x 11),
  (.call 55 [.x 10, .i .i64 (.ofNat 10), .i .i64 (.ofNat 9)], .tu [.x 12, .b true]),
  (.call 55 [.x 11, .i .i64 (.ofNat 16), .i .i64 (.ofNat 7)], .tu [.x 13, .b true]),
  (.len (.x 10), .x 14),
  (.bin .leq (.x 14) (.i .i64 (.ofNat 9)), .b true),
  (.bin .eql (.x 12) (.x 3), .b true),
  (.len (.x 11), .x 15),
  (.bin .leq (.x 15) (.i .i64 (.ofNat 7)), .b true),
  (.bin .eql (.x 13) (.x 3), .b true)]
noncomputable def tab7 : Tab := addLps ({ tabk with hyp := hy7 }) 5 fi5 [(lfLd (.s 0 0) (.x 3) (.x 4)), (lfLu (.s 0 0) (.x 3) (.b true) (.x 5))]
theorem run7 : okB (call tab7 9000 5 [.x 0, .x 1, .b true] ⟨H0 , 7, 0, 0⟩) = true := by kernel_rfl
def nu7 (n : Int) (zeros : Int) : List Value := [.int .u32 (n),
  .int .u8 (zeros),
  .int .u32 (n % 10000),
  .int .i64 ((n % 10000)),
  St' (digs 10 false (n % 10000)),
  St' (digs 16 true (n % 10000)),
  St' ([u8 48] ++ (digs 10 false (n % 10000))),
  St' ([u8 48] ++ (digs 16 true (n % 10000))),
  St' ([u8 48, u8 48] ++ (digs 10 false (n % 10000))),
  St' ([u8 48, u8 48] ++ (digs 16 true (n % 10000))),
  St' ([u8 48, u8 48, u8 48] ++ (digs 10 false (n % 10000))),
  St' ([u8 48, u8 48, u8 48] ++ (digs 16 true (n % 10000))),
  .int .i64 (valF 10 ([u8 48, u8 48, u8 48] ++ (digs 10 false (n % 10000))) 0),
  .int .i64 (valF 16 ([u8 48, u8 48, u8 48] ++ (digs 16 true (n % 10000))) 0),
  .int .i64 (((digs 10 false (n % 10000)).length : Int) + 3),
  .int .i64 (((digs 16 true (n % 10000)).length : Int) + 3)]
theorem one7 (n : Int) (zeros : Int) : ∀ j, j < 1000000 → (nuL (nu7 n zeros) j).oneCell' = true := fun j _ => nuL_one (l := nu7 n zeros) rfl j
set_option maxHeartbeats 2000000 in
theorem hyOk7 (n : Int) (zeros : Int) (b0 : 0 ≤ n) (b1 : n ≤ 4294967295) (b2 : 0 ≤ zeros) (b3 : zeros ≤ 255) (h0 : zeros % 8 = 3) : ∀ k r, (k, r) ∈ hy7 → HOk (cx (nuL (nu7 n zeros)) (one7 n zeros) 0 laidE laidE_stab) k r := by
  have := digs_bd (B := 10) (big := false) (n % 10000)
  have := digs_dec4 (b := false) (k := n % 10000) (by omega) (by omega)
  have := digs_bd (B := 16) (big := true) (n % 10000)
  have := digs_hex4 (b := true) (k := n % 10000) (by omega) (by omega)
  have : valF 10 ([u8 48, u8 48, u8 48] ++ (digs 10 false (n % 10000))) 0 = n % 10000 := val_dz (big := false) (.inl rfl) (k := n % 10000) (by omega) (by omega) 3
  have : valF 16 ([u8 48, u8 48, u8 48] ++ (digs 16 true (n % 10000))) 0 = n % 10000 := val_dz (big := true) (.inr rfl) (k := n % 10000) (by omega) (by omega) 3
  unfold hy7
  refine hcons (kRem (isX rfl) (isZ (m := 10000) rfl) (denX rfl) (by omega) (by omega) rfl) ?_
  refine hcons (kConvF (isX rfl) tu3 (denX rfl) (fI64 (by omega) (by omega))) ?_
  refine hcons (kRem (isX rfl) (isZ (m := 8) rfl) (denZ (m := 3) rfl) (by omega) (by omega) (by omega)) ?_
  refine hcons (kCat (isSx (l := [u8 48]) 1 48 rfl) (isX rfl) (denX rfl) (by first | rfl | (simp; done)) (by first | omega | (simp <;> omega))) ?_
  refine hcons (kCat (isSx (l := [u8 48]) 1 48 rfl) (isX rfl) (denX rfl) (by first | rfl | (simp; done)) (by first | omega | (simp <;> omega))) ?_
  refine hcons (kCat (isSx (l := [u8 48]) 1 48 rfl) (isX rfl) (denX rfl) (by first | rfl | (simp; done)) (by first | omega | (simp <;> omega))) ?_
  refine hcons (kCat (isSx (l := [u8 48]) 1 48 rfl) (isX rfl) (denX rfl) (by first | rfl | (simp; done)) (by first | omega | (simp <;> omega))) ?_
  refine hcons (kCat (isSx (l := [u8 48]) 1 48 rfl) (isX rfl) (denX rfl) (by first | rfl | (simp; done)) (by first | omega | (simp <;> omega))) ?_
  refine hcons (kCat (isSx (l := [u8 48]) 1 48 rfl) (isX rfl) (denX rfl) (by first | rfl | (simp; done)) (by first | omega | (simp <;> omega))) ?_
  refine hcons (hokNum10 (s := ([u8 48, u8 48, u8 48] ++ (digs 10 false (n % 10000)))) (isX rfl) (isI .i64 10) (isI .i64 9) (denT2 (denX rfl) (denB true)) (by first | omega | (simp only [List.length_append, List.length_cons, List.length_nil]; omega)) (by first | omega | (simp only [List.length_append, List.length_cons, List.length_nil]; omega)) (by first | omega | (simp only [List.length_append, List.length_cons, List.length_nil]; omega)) (okD_dz (big := false) (.inl rfl) 3 (n % 10000))) ?_
  refine hcons (hokNum16 (s := ([u8 48, u8 48, u8 48] ++ (digs 16 true (n % 10000)))) (isX rfl) (isI .i64 16) (isI .i64 7) (denT2 (denX rfl) (denB true)) (by first | omega | (simp only [List.length_append, List.length_cons, List.length_nil]; omega)) (by first | omega | (simp only [List.length_append, List.length_cons, List.length_nil]; omega)) (by first | omega | (simp only [List.length_append, List.length_cons, List.length_nil]; omega)) (okD_dz (big := true) (.inr rfl) 3 (n % 10000))) ?_
  refine hcons (kLenE (isX rfl) (denX rfl) (by first | omega | (simp <;> omega))) ?_
  refine hcons (kLe (isX rfl) (isZ (m := 9) rfl) (decide_eq_true (by omega))) ?_
  refine hcons (kEqI (isX rfl) (isX rfl) (decide_eq_true (by omega))) ?_
  refine hcons (kLenE (isX rfl) (denX rfl) (by first | omega | (simp <;> omega))) ?_
  refine hcons (kLe (isX rfl) (isZ (m := 7) rfl) (decide_eq_true (by omega))) ?_
  refine hcons (kEqI (isX rfl) (isX rfl) (decide_eq_true (by omega))) ?_
  exact hnil
theorem path7 (n : Int) (zeros : Int) (b0 : 0 ≤ n) (b1 : n ≤ 4294967295) (b2 : 0 ≤ zeros) (b3 : zeros ≤ 255) (h0 : zeros % 8 = 3) (w : World) (hl : laidE w) : Calls Tryd.prog 5 #[.int .u32 n, .int .u8 zeros, .bool true] w fun e w' => e = .returned (.bool true) ∧ Go.AX.Below (Go.AX.Fz.lt w.heap.size) w w' := by
  have := digs_bd (B := 10) (big := false) (n % 10000)
  have := digs_dec4 (b := false) (k := n % 10000) (by omega) (by omega)
  have := digs_bd (B := 16) (big := true) (n % 10000)
  have := digs_hex4 (b := true) (k := n % 10000) (by omega) (by omega)
  have : valF 10 ([u8 48, u8 48, u8 48] ++ (digs 10 false (n % 10000))) 0 = n % 10000 := val_dz (big := false) (.inl rfl) (k := n % 10000) (by omega) (by omega) 3
  have : valF 16 ([u8 48, u8 48, u8 48] ++ (digs 16 true (n % 10000))) 0 = n % 10000 := val_dz (big := true) (.inr rfl) (k := n % 10000) (by omega) (by omega) 3
  obtain ⟨fi, hfi, hb⟩ : ∃ fi, tab7.fn.get 5 = some fi ∧ fi.body.isSome = true := ⟨_, (get_lps (by omega)), by show fi5.body.isSome = true; rw [fi5_body]; rfl⟩
  exact runP (tb := tab7) (AllOk.lp1 ((tabkOk (nuL (nu7 n zeros)) (one7 n zeros)).hyps (hyOk7 n zeros b0 b1 b2 b3 h0)) (by omega) fi5_at fi5_body (lfCons ⟨0, keyLd, lfOkLd (T := (digs 10 false (n % 10000))) (f := 10002) (x := n % 10000) (s := []) (isSx (l := ([] : List UInt8)) 0 0 rfl) (isX rfl) (denX rfl) (by omega) (by omega) (fun _ => by omega) rfl (by simp)⟩ (lfCons ⟨1, keyLu, lfOkLu (T := (digs 16 true (n % 10000))) (f := 10002) (x := n % 10000) (s := []) (isSx (l := ([] : List UInt8)) 0 0 rfl) (isX rfl) (isB true) (denX rfl) (by omega) (by omega) (fun _ => by omega) rfl (by simp)⟩ lfNil))) rfl hfi hb (run7 ) (args := [.int .u32 n, .int .u8 zeros, .bool true]) (by simp only [RelL, Rel]; exact ⟨_, _, rfl, rfl, ⟨_, _, rfl, rfl, ⟨_, _, rfl, rfl, rfl⟩⟩⟩) w hl
end Go.Proofs.YtacflaaahanhgaaDoor.octetNumbers
