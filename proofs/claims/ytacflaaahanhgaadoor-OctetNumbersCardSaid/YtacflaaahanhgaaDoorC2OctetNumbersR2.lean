/- A part of the proof: an interpreter of the model's own code on partly known states, and that what it answers is what the program answers. No condition of its own. -/
import Derived.Test.YtacflaaahanhgaaDoorC2OctetNumbersO
set_option maxRecDepth 100000
set_option linter.unusedVariables false
set_option linter.unusedSimpArgs false
namespace Go.Proofs.YtacflaaahanhgaaDoor.octetNumbers
open Go Go.AX Go.Proofs Go.Proofs.YtacflaaahanhgaaDoor
def hy16 : List (HK × AV) := [(.bin .rem (.x 0) (.i .u32 (.ofNat 10000)), .x 2),
  (.conv 3 (.x 2), .x 3),
  (.bin .rem (.x 1) (.i .u8 (.ofNat 8)), .i .u8 (.ofNat 5)),
  (.bin .add (.s 1 48) (.x 4), .x 6),
  (.bin .add (.s 1 48) (.x 5), .x 7),
  (.bin .add (.s 1 48) (.x 6), .x 8),
  (.bin .add (.s 1 48) (.x 7), .x 9),
  (.bin .add (.s 1 48) (.x 8), .x 10),
  (.bin .add (.s 1 48) (.x 9), .x 11),
  (.bin .add (.s 1 48) (.x 10), .x 12),
  (.bin .add (.s 1 48) (.x 11), .x 13),
  (.bin .add (.s 1 48) (.x 12), .x 14),
  (.bin .add (.s 1 48) (.x 13), .x 15),
  (.call 55 [.x 14, .i .i64 (.ofNat 10), .i .i64 (.ofNat 9)], .tu [.x 16, .b true]),
  (.call 55 [.x 15, .i .i64 (.ofNat 16), .i .i64 (.ofNat 7)], .tu [.x 17, .b true]),
  (.len (.x 14), .x 18),
  (.bin .leq (.x 18) (.i .i64 (.ofNat 9)), .b true),
  (.bin .eql (.x 16) (.x 3), .b true),
  (.len (.x 15), .x 19),
  (.bin .leq (.x 19) (.i .i64 (.ofNat 7)), .b true),
  (.bin .eql (.x 17) (.x 3), .b true)]
noncomputable def tab16 : Tab := addLps ({ tabk with hyp := hy16 }) 5 fi5 [(lfLd (.s 0 0) (.x 3) (.x 4)), (lfLn (.s 0 0) (.x 3) (.b false) (.x 5))]
theorem run16 : okB (call tab16 9000 5 [.x 0, .x 1, .b false] ⟨H0 , 7, 0, 0⟩) = true := by kernel_rfl
def nu16 (n : Int) (zeros : Int) : List Value := [.int .u32 (n),
  .int .u8 (zeros),
  .int .u32 (n % 10000),
  .int .i64 ((n % 10000)),
  St' (digs 10 false (n % 10000)),
  St' (digs 16 false (n % 10000)),
  St' ([u8 48] ++ (digs 10 false (n % 10000))),
  St' ([u8 48] ++ (digs 16 false (n % 10000))),
  St' ([u8 48, u8 48] ++ (digs 10 false (n % 10000))),
  St' ([u8 48, u8 48] ++ (digs 16 false (n % 10000))),
  St' ([u8 48, u8 48, u8 48] ++ (digs 10 false (n % 10000))),
  St' ([u8 48, u8 48, u8 48] ++ (digs 16 false (n % 10000))),
  St' ([u8 48, u8 48, u8 48, u8 48] ++ (digs 10 false (n % 10000))),
  St' ([u8 48, u8 48, u8 48, u8 48] ++ (digs 16 false (n % 10000))),
  St' ([u8 48, u8 48, u8 48, u8 48, u8 48] ++ (digs 10 false (n % 10000))),
  St' ([u8 48, u8 48, u8 48, u8 48, u8 48] ++ (digs 16 false (n % 10000))),
  .int .i64 (valF 10 ([u8 48, u8 48, u8 48, u8 48, u8 48] ++ (digs 10 false (n % 10000))) 0),
  .int .i64 (valF 16 ([u8 48, u8 48, u8 48, u8 48, u8 48] ++ (digs 16 false (n % 10000))) 0),
  .int .i64 (((digs 10 false (n % 10000)).length : Int) + 5),
  .int .i64 (((digs 16 false (n % 10000)).length : Int) + 5)]
theorem one16 (n : Int) (zeros : Int) : ∀ j, j < 1000000 → (nuL (nu16 n zeros) j).oneCell' = true := fun j _ => nuL_one (l := nu16 n zeros) rfl j
set_option maxHeartbeats 2000000 in
theorem hyOk16 (n : Int) (zeros : Int) (b0 : 0 ≤ n) (b1 : n ≤ 4294967295) (b2 : 0 ≤ zeros) (b3 : zeros ≤ 255) (h0 : zeros % 8 = 5) (h2 : ¬ (7 < ((digs 16 false (n % 10000)).length : Int) + 5)) : ∀ k r, (k, r) ∈ hy16 → HOk (cx (nuL (nu16 n zeros)) (one16 n zeros) 0 laidE laidE_stab) k r := by
  have := digs_bd (B := 10) (big := false) (n % 10000)
  have := digs_dec4 (b := false) (k := n % 10000) (by omega) (by omega)
  have := digs_bd (B := 16) (big := false) (n % 10000)
  have := digs_hex4 (b := false) (k := n % 10000) (by omega) (by omega)
  have : valF 10 ([u8 48, u8 48, u8 48, u8 48, u8 48] ++ (digs 10 false (n % 10000))) 0 = n % 10000 := val_dz (big := false) (.inl rfl) (k := n % 10000) (by omega) (by omega) 5
  have : valF 16 ([u8 48, u8 48, u8 48, u8 48, u8 48] ++ (digs 16 false (n % 10000))) 0 = n % 10000 := val_dz (big := false) (.inr rfl) (k := n % 10000) (by omega) (by omega) 5
  unfold hy16
  refine hcons (kRem (isX rfl) (isZ (m := 10000) rfl) (denX rfl) (by omega) (by omega) rfl) ?_
  refine hcons (kConvF (isX rfl) tu3 (denX rfl) (fI64 (by omega) (by omega))) ?_
  refine hcons (kRem (isX rfl) (isZ (m := 8) rfl) (denZ (m := 5) rfl) (by omega) (by omega) (by omega)) ?_
  refine hcons (kCat (isSx (l := [u8 48]) 1 48 rfl) (isX rfl) (denX rfl) (by first | rfl | (simp; done)) (by first | omega | (simp <;> omega))) ?_
  refine hcons (kCat (isSx (l := [u8 48]) 1 48 rfl) (isX rfl) (denX rfl) (by first | rfl | (simp; done)) (by first | omega | (simp <;> omega))) ?_
  refine hcons (kCat (isSx (l := [u8 48]) 1 48 rfl) (isX rfl) (denX rfl) (by first | rfl | (simp; done)) (by first | omega | (simp <;> omega))) ?_
  refine hcons (kCat (isSx (l := [u8 48]) 1 48 rfl) (isX rfl) (denX rfl) (by first | rfl | (simp; done)) (by first | omega | (simp <;> omega))) ?_
  refine hcons (kCat (isSx (l := [u8 48]) 1 48 rfl) (isX rfl) (denX rfl) (by first | rfl | (simp; done)) (by first | omega | (simp <;> omega))) ?_
  refine hcons (kCat (isSx (l := [u8 48]) 1 48 rfl) (isX rfl) (denX rfl) (by first | rfl | (simp; done)) (by first | omega | (simp <;> omega))) ?_
  refine hcons (kCat (isSx (l := [u8 48]) 1 48 rfl) (isX rfl) (denX rfl) (by first | rfl | (simp; done)) (by first | omega | (simp <;> omega))) ?_
  refine hcons (kCat (isSx (l := [u8 48]) 1 48 rfl) (isX rfl) (denX rfl) (by first | rfl | (simp; done)) (by first | omega | (simp <;> omega))) ?_
  refine hcons (kCat (isSx (l := [u8 48]) 1 48 rfl) (isX rfl) (denX rfl) (by first | rfl | (simp; done)) (by first | omega | (simp <;> omega))) ?_
  refine hcons (kCat (isSx (l := [u8 48]) 1 48 rfl) (isX rfl) (denX rfl) (by first | rfl | (simp; done)) (by first | omega | (simp <;> omega))) ?_
  refine hcons (hokNum10 (s := ([u8 48, u8 48, u8 48, u8 48, u8 48] ++ (digs 10 false (n % 10000)))) (isX rfl) (isI .i64 10) (isI .i64 9) (denT2 (denX rfl) (denB true)) (by first | omega | (simp only [List.length_append, List.length_cons, List.length_nil]; omega)) (by first | omega | (simp only [List.length_append, List.length_cons, List.length_nil]; omega)) (by first | omega | (simp only [List.length_append, List.length_cons, List.length_nil]; omega)) (okD_dz (big := false) (.inl rfl) 5 (n % 10000))) ?_
  refine hcons (hokNum16 (s := ([u8 48, u8 48, u8 48, u8 48, u8 48] ++ (digs 16 false (n % 10000)))) (isX rfl) (isI .i64 16) (isI .i64 7) (denT2 (denX rfl) (denB true)) (by first | omega | (simp only [List.length_append, List.length_cons, List.length_nil]; omega)) (by first | omega | (simp only [List.length_append, List.length_cons, List.length_nil]; omega)) (by first | omega | (simp only [List.length_append, List.length_cons, List.length_nil]; omega)) (okD_dz (big := false) (.inr rfl) 5 (n % 10000))) ?_
  refine hcons (kLenE (isX rfl) (denX rfl) (by first | omega | (simp <;> omega))) ?_
  refine hcons (kLe (isX rfl) (isZ (m := 9) rfl) (decide_eq_true (by omega))) ?_
  refine hcons (kEqI (isX rfl) (isX rfl) (decide_eq_true (by omega))) ?_
  refine hcons (kLenE (isX rfl) (denX rfl) (by first | omega | (simp <;> omega))) ?_
  refine hcons (kLe (isX rfl) (isZ (m := 7) rfl) (decide_eq_true (by omega))) ?_
  refine hcons (kEqI (isX rfl) (isX rfl) (decide_eq_true (by omega))) ?_
  exact hnil
theorem path16 (n : Int) (zeros : Int) (b0 : 0 ≤ n) (b1 : n ≤ 4294967295) (b2 : 0 ≤ zeros) (b3 : zeros ≤ 255) (h0 : zeros % 8 = 5) (h2 : ¬ (7 < ((digs 16 false (n % 10000)).length : Int) + 5)) (w : World) (hl : laidE w) : Calls Tryd.prog 5 #[.int .u32 n, .int .u8 zeros, .bool false] w fun e w' => e = .returned (.bool true) ∧ Go.AX.Below (Go.AX.Fz.lt w.heap.size) w w' := by
  have := digs_bd (B := 10) (big := false) (n % 10000)
  have := digs_dec4 (b := false) (k := n % 10000) (by omega) (by omega)
  have := digs_bd (B := 16) (big := false) (n % 10000)
  have := digs_hex4 (b := false) (k := n % 10000) (by omega) (by omega)
  have : valF 10 ([u8 48, u8 48, u8 48, u8 48, u8 48] ++ (digs 10 false (n % 10000))) 0 = n % 10000 := val_dz (big := false) (.inl rfl) (k := n % 10000) (by omega) (by omega) 5
  have : valF 16 ([u8 48, u8 48, u8 48, u8 48, u8 48] ++ (digs 16 false (n % 10000))) 0 = n % 10000 := val_dz (big := false) (.inr rfl) (k := n % 10000) (by omega) (by omega) 5
  obtain ⟨fi, hfi, hb⟩ : ∃ fi, tab16.fn.get 5 = some fi ∧ fi.body.isSome = true := ⟨_, (get_lps (by omega)), by show fi5.body.isSome = true; rw [fi5_body]; rfl⟩
  exact runP (tb := tab16) (AllOk.lp1 ((tabkOk (nuL (nu16 n zeros)) (one16 n zeros)).hyps (hyOk16 n zeros b0 b1 b2 b3 h0 h2)) (by omega) fi5_at fi5_body (lfCons ⟨0, keyLd, lfOkLd (T := (digs 10 false (n % 10000))) (f := 10002) (x := n % 10000) (s := []) (isSx (l := ([] : List UInt8)) 0 0 rfl) (isX rfl) (denX rfl) (by omega) (by omega) (fun _ => by omega) rfl (by simp)⟩ (lfCons ⟨1, keyLn, lfOkLn (T := (digs 16 false (n % 10000))) (f := 10002) (x := n % 10000) (s := []) (isSx (l := ([] : List UInt8)) 0 0 rfl) (isX rfl) (isB false) (denX rfl) (by omega) (by omega) (fun _ => by omega) rfl (by simp)⟩ lfNil))) rfl hfi hb (run16 ) (args := [.int .u32 n, .int .u8 zeros, .bool false]) (by simp only [RelL, Rel]; exact ⟨_, _, rfl, rfl, ⟨_, _, rfl, rfl, ⟨_, _, rfl, rfl, rfl⟩⟩⟩) w hl
def hy17 : List (HK × AV) := [(.bin .rem (.x 0) (.i .u32 (.ofNat 10000)), .x 2),
  (.conv 3 (.x 2), .x 3),
  (.bin .rem (.x 1) (.i .u8 (.ofNat 8)), .i .u8 (.ofNat 5)),
  (.bin .add (.s 1 48) (.x 4), .x 6),
  (.bin .add (.s 1 48) (.x 5), .x 7),
  (.bin .add (.s 1 48) (.x 6), .x 8),
  (.bin .add (.s 1 48) (.x 7), .x 9),
  (.bin .add (.s 1 48) (.x 8), .x 10),
  (.bin .add (.s 1 48) (.x 9), .x 11),
  (.bin .add (.s 1 48) (.x 10), .x 12),
  (.bin .add (.s 1 48) (.x 11), .x 13),
  (.bin .add (.s 1 48) (.x 12), .x 14),
  (.bin .add (.s 1 48) (.x 13), .x 15),
  (.call 55 [.x 14, .i .i64 (.ofNat 10), .i .i64 (.ofNat 9)], .tu [.x 16, .b true]),
  (.call 55 [.x 15, .i .i64 (.ofNat 16), .i .i64 (.ofNat 7)], .tu [.x 17, .b true]),
  (.len (.x 14), .x 18),
  (.bin .leq (.x 18) (.i .i64 (.ofNat 9)), .b true),
  (.bin .eql (.x 16) (.x 3), .b true),
  (.len (.x 15), .x 19),
  (.bin .leq (.x 19) (.i .i64 (.ofNat 7)), .b true),
  (.bin .eql (.x 17) (.x 3), .b true)]
noncomputable def tab17 : Tab := addLps ({ tabk with hyp := hy17 }) 5 fi5 [(lfLd (.s 0 0) (.x 3) (.x 4)), (lfLu (.s 0 0) (.x 3) (.b true) (.x 5))]
theorem run17 : okB (call tab17 9000 5 [.x 0, .x 1, .b true] ⟨H0 , 7, 0, 0⟩) = true := by kernel_rfl
def nu17 (n : Int) (zeros : Int) : List Value := [.int .u32 (n),
  .int .u8 (zeros),
  .int .u32 (n % 10000),
  .int .i64 ((n % 10000)),
  St' (digs 10 false (n % 10000)),
  St' (digs 16 true (n % 10000)),
  St' ([u8 48] ++ (digs 10 false (n % 10000))),
  St' ([u8 48] ++ (digs 16 true (n % 10000))),
  St' ([u8 48, u8 48] ++ (digs 10 false (n % 10000))),
  St' ([u8 48, u8 48] ++ (digs 16 true (n % 10000))),
  St' ([u8 48, u8 48, u8 48] ++ (digs 10 false (n % 10000))),
  St' ([u8 48, u8 48, u8 48] ++ (digs 16 true (n % 10000))),
  St' ([u8 48, u8 48, u8 48, u8 48] ++ (digs 10 false (n % 10000))),
  St' ([u8 48, u8 48, u8 48, u8 48] ++ (digs 16 true (n % 10000))),
  St' ([u8 48, u8 48, u8 48, u8 48, u8 48] ++ (digs 10 false (n % 10000))),
  St' ([u8 48, u8 48, u8 48, u8 48, u8 48] ++ (digs 16 true (n % 10000))),
  .int .i64 (valF 10 ([u8 48, u8 48, u8 48, u8 48, u8 48] ++ (digs 10 false (n % 10000))) 0),
  .int .i64 (valF 16 ([u8 48, u8 48, u8 48, u8 48, u8 48] ++ (digs 16 true (n % 10000))) 0),
  .int .i64 (((digs 10 false (n % 10000)).length : Int) + 5),
  .int .i64 (((digs 16 true (n % 10000)).length : Int) + 5)]
theorem one17 (n : Int) (zeros : Int) : ∀ j, j < 1000000 → (nuL (nu17 n zeros) j).oneCell' = true := fun j _ => nuL_one (l := nu17 n zeros) rfl j
set_option maxHeartbeats 2000000 in
theorem hyOk17 (n : Int) (zeros : Int) (b0 : 0 ≤ n) (b1 : n ≤ 4294967295) (b2 : 0 ≤ zeros) (b3 : zeros ≤ 255) (h0 : zeros % 8 = 5) (h2 : ¬ (7 < ((digs 16 true (n % 10000)).length : Int) + 5)) : ∀ k r, (k, r) ∈ hy17 → HOk (cx (nuL (nu17 n zeros)) (one17 n zeros) 0 laidE laidE_stab) k r := by
  have := digs_bd (B := 10) (big := false) (n % 10000)
  have := digs_dec4 (b := false) (k := n % 10000) (by omega) (by omega)
  have := digs_bd (B := 16) (big := true) (n % 10000)
  have := digs_hex4 (b := true) (k := n % 10000) (by omega) (by omega)
  have : valF 10 ([u8 48, u8 48, u8 48, u8 48, u8 48] ++ (digs 10 false (n % 10000))) 0 = n % 10000 := val_dz (big := false) (.inl rfl) (k := n % 10000) (by omega) (by omega) 5
  have : valF 16 ([u8 48, u8 48, u8 48, u8 48, u8 48] ++ (digs 16 true (n % 10000))) 0 = n % 10000 := val_dz (big := true) (.inr rfl) (k := n % 10000) (by omega) (by omega) 5
  unfold hy17
  refine hcons (kRem (isX rfl) (isZ (m := 10000) rfl) (denX rfl) (by omega) (by omega) rfl) ?_
  refine hcons (kConvF (isX rfl) tu3 (denX rfl) (fI64 (by omega) (by omega))) ?_
  refine hcons (kRem (isX rfl) (isZ (m := 8) rfl) (denZ (m := 5) rfl) (by omega) (by omega) (by omega)) ?_
  refine hcons (kCat (isSx (l := [u8 48]) 1 48 rfl) (isX rfl) (denX rfl) (by first | rfl | (simp; done)) (by first | omega | (simp <;> omega))) ?_
  refine hcons (kCat (isSx (l := [u8 48]) 1 48 rfl) (isX rfl) (denX rfl) (by first | rfl | (simp; done)) (by first | omega | (simp <;> omega))) ?_
  refine hcons (kCat (isSx (l := [u8 48]) 1 48 rfl) (isX rfl) (denX rfl) (by first | rfl | (simp; done)) (by first | omega | (simp <;> omega))) ?_
  refine hcons (kCat (isSx (l := [u8 48]) 1 48 rfl) (isX rfl) (denX rfl) (by first | rfl | (simp; done)) (by first | omega | (simp <;> omega))) ?_
  refine hcons (kCat (isSx (l := [u8 48]) 1 48 rfl) (isX rfl) (denX rfl) (by first | rfl | (simp; done)) (by first | omega | (simp <;> omega))) ?_
  refine hcons (kCat (isSx (l := [u8 48]) 1 48 rfl) (isX rfl) (denX rfl) (by first | rfl | (simp; done)) (by first | omega | (simp <;> omega))) ?_
  refine hcons (kCat (isSx (l := [u8 48]) 1 48 rfl) (isX rfl) (denX rfl) (by first | rfl | (simp; done)) (by first | omega | (simp <;> omega))) ?_
  refine hcons (kCat (isSx (l := [u8 48]) 1 48 rfl) (isX rfl) (denX rfl) (by first | rfl | (simp; done)) (by first | omega | (simp <;> omega))) ?_
  refine hcons (kCat (isSx (l := [u8 48]) 1 48 rfl) (isX rfl) (denX rfl) (by first | rfl | (simp; done)) (by first | omega | (simp <;> omega))) ?_
  refine hcons (kCat (isSx (l := [u8 48]) 1 48 rfl) (isX rfl) (denX rfl) (by first | rfl | (simp; done)) (by first | omega | (simp <;> omega))) ?_
  refine hcons (hokNum10 (s := ([u8 48, u8 48, u8 48, u8 48, u8 48] ++ (digs 10 false (n % 10000)))) (isX rfl) (isI .i64 10) (isI .i64 9) (denT2 (denX rfl) (denB true)) (by first | omega | (simp only [List.length_append, List.length_cons, List.length_nil]; omega)) (by first | omega | (simp only [List.length_append, List.length_cons, List.length_nil]; omega)) (by first | omega | (simp only [List.length_append, List.length_cons, List.length_nil]; omega)) (okD_dz (big := false) (.inl rfl) 5 (n % 10000))) ?_
  refine hcons (hokNum16 (s := ([u8 48, u8 48, u8 48, u8 48, u8 48] ++ (digs 16 true (n % 10000)))) (isX rfl) (isI .i64 16) (isI .i64 7) (denT2 (denX rfl) (denB true)) (by first | omega | (simp only [List.length_append, List.length_cons, List.length_nil]; omega)) (by first | omega | (simp only [List.length_append, List.length_cons, List.length_nil]; omega)) (by first | omega | (simp only [List.length_append, List.length_cons, List.length_nil]; omega)) (okD_dz (big := true) (.inr rfl) 5 (n % 10000))) ?_
  refine hcons (kLenE (isX rfl) (denX rfl) (by first | omega | (simp <;> omega))) ?_
  refine hcons (kLe (isX rfl) (isZ (m := 9) rfl) (decide_eq_true (by omega))) ?_
  refine hcons (kEqI (isX rfl) (isX rfl) (decide_eq_true (by omega))) ?_
  refine hcons (kLenE (isX rfl) (denX rfl) (by first | omega | (simp <;> omega))) ?_
  refine hcons (kLe (isX rfl) (isZ (m := 7) rfl) (decide_eq_true (by omega))) ?_
  refine hcons (kEqI (isX rfl) (isX rfl) (decide_eq_true (by omega))) ?_
  exact hnil
theorem path17 (n : Int) (zeros : Int) (b0 : 0 ≤ n) (b1 : n ≤ 4294967295) (b2 : 0 ≤ zeros) (b3 : zeros ≤ 255) (h0 : zeros % 8 = 5) (h2 : ¬ (7 < ((digs 16 true (n % 10000)).length : Int) + 5)) (w : World) (hl : laidE w) : Calls Tryd.prog 5 #[.int .u32 n, .int .u8 zeros, .bool true] w fun e w' => e = .returned (.bool true) ∧ Go.AX.Below (Go.AX.Fz.lt w.heap.size) w w' := by
  have := digs_bd (B := 10) (big := false) (n % 10000)
  have := digs_dec4 (b := false) (k := n % 10000) (by omega) (by omega)
  have := digs_bd (B := 16) (big := true) (n % 10000)
  have := digs_hex4 (b := true) (k := n % 10000) (by omega) (by omega)
  have : valF 10 ([u8 48, u8 48, u8 48, u8 48, u8 48] ++ (digs 10 false (n % 10000))) 0 = n % 10000 := val_dz (big := false) (.inl rfl) (k := n % 10000) (by omega) (by omega) 5
  have : valF 16 ([u8 48, u8 48, u8 48, u8 48, u8 48] ++ (digs 16 true (n % 10000))) 0 = n % 10000 := val_dz (big := true) (.inr rfl) (k := n % 10000) (by omega) (by omega) 5
  obtain ⟨fi, hfi, hb⟩ : ∃ fi, tab17.fn.get 5 = some fi ∧ fi.body.isSome = true := ⟨_, (get_lps (by omega)), by show fi5.body.isSome = true; rw [fi5_body]; rfl⟩
  exact runP (tb := tab17) (AllOk.lp1 ((tabkOk (nuL (nu17 n zeros)) (one17 n zeros)).hyps (hyOk17 n zeros b0 b1 b2 b3 h0 h2)) (by omega) fi5_at fi5_body (lfCons ⟨0, keyLd, lfOkLd (T := (digs 10 false (n % 10000))) (f := 10002) (x := n % 10000) (s := []) (isSx (l := ([] : List UInt8)) 0 0 rfl) (isX rfl) (denX rfl) (by omega) (by omega) (fun _ => by omega) rfl (by simp)⟩ (lfCons ⟨1, keyLu, lfOkLu (T := (digs 16 true (n % 10000))) (f := 10002) (x := n % 10000) (s := []) (isSx (l := ([] : List UInt8)) 0 0 rfl) (isX rfl) (isB true) (denX rfl) (by omega) (by omega) (fun _ => by omega) rfl (by simp)⟩ lfNil))) rfl hfi hb (run17 ) (args := [.int .u32 n, .int .u8 zeros, .bool true]) (by simp only [RelL, Rel]; exact ⟨_, _, rfl, rfl, ⟨_, _, rfl, rfl, ⟨_, _, rfl, rfl, rfl⟩⟩⟩) w hl
def hy18 : List (HK × AV) := [(.bin .rem (.x 0) (.i .u32 (.ofNat 10000)), .x 2),
  (.conv 3 (.x 2), .x 3),
  (.bin .rem (.x 1) (.i .u8 (.ofNat 8)), .i .u8 (.ofNat 6)),
  (.bin .add (.s 1 48) (.x 4), .x 6),
  (.bin .add (.s 1 48) (.x 5), .x 7),
  (.bin .add (.s 1 48) (.x 6), .x 8),
  (.bin .add (.s 1 48) (.x 7), .x 9),
  (.bin .add (.s 1 48) (.x 8), .x 10),
  (.bin .add (.s 1 48) (.x 9), .x 11),
  (.bin .add (.s 1 48) (.x 10), .x 12),
  (.bin .add (.s 1 48) (.x 11), .x 13),
  (.bin .add (.s 1 48) (.x 12), .x 14),
  (.bin .add (.s 1 48) (.x 13), .x 15),
  (.bin .add (.s 1 48) (.x 14), .x 16),
  (.bin .add (.s 1 48) (.x 15), .x 17),
  (.call 55 [.x 16, .i .i64 (.ofNat 10), .i .i64 (.ofNat 9)], .tu [.x 18, .b true]),
  (.call 55 [.x 17, .i .i64 (.ofNat 16), .i .i64 (.ofNat 7)], .tu [.x 19, .b true]),
  (.len (.x 16), .x 20),
  (.bin .leq (.x 20) (.i .i64 (.ofNat 9)), .b true),
  (.bin .eql (.x 18) (.x 3), .b true),
  (.len (.x 17), .x 21),
  (.bin .leq (.x 21) (.i .i64 (.ofNat 7)), .b true),
  (.bin .eql (.x 19) (.x 3), .b true)]
noncomputable def tab18 : Tab := addLps ({ tabk with hyp := hy18 }) 5 fi5 [(lfLd (.s 0 0) (.x 3) (.x 4)), (lfLn (.s 0 0) (.x 3) (.b false) (.x 5))]
theorem run18 : okB (call tab18 9000 5 [.x 0, .x 1, .b false] ⟨H0 , 7, 0, 0⟩) = true := by kernel_rfl
def nu18 (n : Int) (zeros : Int) : List Value := [.int .u32 (n),
  .int .u8 (zeros),
  .int .u32 (n % 10000),
  .int .i64 ((n % 10000)),
  St' (digs 10 false (n % 10000)),
  St' (digs 16 false (n % 10000)),
  St' ([u8 48] ++ (digs 10 false (n % 10000))),
  St' ([u8 48] ++ (digs 16 false (n % 10000))),
  St' ([u8 48, u8 48] ++ (digs 10 false (n % 10000))),
  St' ([u8 48, u8 48] ++ (digs 16 false (n % 10000))),
  St' ([u8 48, u8 48, u8 48] ++ (digs 10 false (n % 10000))),
  St' ([u8 48, u8 48, u8 48] ++ (digs 16 false (n % 10000))),
  St' ([u8 48, u8 48, u8 48, u8 48] ++ (digs 10 false (n % 10000))),
  St' ([u8 48, u8 48, u8 48, u8 48] ++ (digs 16 false (n % 10000))),
  St' ([u8 48, u8 48, u8 48, u8 48, u8 48] ++ (digs 10 false (n % 10000))),
  St' ([u8 48, u8 48, u8 48, u8 48, u8 48] ++ (digs 16 false (n % 10000))),
  St' ([u8 48, u8 48, u8 48, u8 48, u8 48, u8 48] ++ (digs 10 false (n % 10000))),
  St' ([u8 48, u8 48, u8 48, u8 48, u8 48, u8 48] ++ (digs 16 false (n % 10000))),
  .int .i64 (valF 10 ([u8 48, u8 48, u8 48, u8 48, u8 48, u8 48] ++ (digs 10 false (n % 10000))) 0),
  .int .i64 (valF 16 ([u8 48, u8 48, u8 48, u8 48, u8 48, u8 48] ++ (digs 16 false (n % 10000))) 0),
  .int .i64 (((digs 10 false (n % 10000)).length : Int) + 6),
  .int .i64 (((digs 16 false (n % 10000)).length : Int) + 6)]
theorem one18 (n : Int) (zeros : Int) : ∀ j, j < 1000000 → (nuL (nu18 n zeros) j).oneCell' = true := fun j _ => nuL_one (l := nu18 n zeros) rfl j
set_option maxHeartbeats 2000000 in
theorem hyOk18 (n : Int) (zeros : Int) (b0 : 0 ≤ n) (b1 : n ≤ 4294967295) (b2 : 0 ≤ zeros) (b3 : zeros ≤ 255) (h0 : zeros % 8 = 6) (h1 : ¬ (9 < ((digs 10 false (n % 10000)).length : Int) + 6)) (h2 : ¬ (7 < ((digs 16 false (n % 10000)).length : Int) + 6)) : ∀ k r, (k, r) ∈ hy18 → HOk (cx (nuL (nu18 n zeros)) (one18 n zeros) 0 laidE laidE_stab) k r := by
  have := digs_bd (B := 10) (big := false) (n % 10000)
  have := digs_dec4 (b := false) (k := n % 10000) (by omega) (by omega)
  have := digs_bd (B := 16) (big := false) (n % 10000)
  have := digs_hex4 (b := false) (k := n % 10000) (by omega) (by omega)
  have : valF 10 ([u8 48, u8 48, u8 48, u8 48, u8 48, u8 48] ++ (digs 10 false (n % 10000))) 0 = n % 10000 := val_dz (big := false) (.inl rfl) (k := n % 10000) (by omega) (by omega) 6
  have : valF 16 ([u8 48, u8 48, u8 48, u8 48, u8 48, u8 48] ++ (digs 16 false (n % 10000))) 0 = n % 10000 := val_dz (big := false) (.inr rfl) (k := n % 10000) (by omega) (by omega) 6
  unfold hy18
  refine hcons (kRem (isX rfl) (isZ (m := 10000) rfl) (denX rfl) (by omega) (by omega) rfl) ?_
  refine hcons (kConvF (isX rfl) tu3 (denX rfl) (fI64 (by omega) (by omega))) ?_
  refine hcons (kRem (isX rfl) (isZ (m := 8) rfl) (denZ (m := 6) rfl) (by omega) (by omega) (by omega)) ?_
  refine hcons (kCat (isSx (l := [u8 48]) 1 48 rfl) (isX rfl) (denX rfl) (by first | rfl | (simp; done)) (by first | omega | (simp <;> omega))) ?_
  refine hcons (kCat (isSx (l := [u8 48]) 1 48 rfl) (isX rfl) (denX rfl) (by first | rfl | (simp; done)) (by first | omega | (simp <;> omega))) ?_
  refine hcons (kCat (isSx (l := [u8 48]) 1 48 rfl) (isX rfl) (denX rfl) (by first | rfl | (simp; done)) (by first | omega | (simp <;> omega))) ?_
  refine hcons (kCat (isSx (l := [u8 48]) 1 48 rfl) (isX rfl) (denX rfl) (by first | rfl | (simp; done)) (by first | omega | (simp <;> omega))) ?_
  refine hcons (kCat (isSx (l := [u8 48]) 1 48 rfl) (isX rfl) (denX rfl) (by first | rfl | (simp; done)) (by first | omega | (simp <;> omega))) ?_
  refine hcons (kCat (isSx (l := [u8 48]) 1 48 rfl) (isX rfl) (denX rfl) (by first | rfl | (simp; done)) (by first | omega | (simp <;> omega))) ?_
  refine hcons (kCat (isSx (l := [u8 48]) 1 48 rfl) (isX rfl) (denX rfl) (by first | rfl | (simp; done)) (by first | omega | (simp <;> omega))) ?_
  refine hcons (kCat (isSx (l := [u8 48]) 1 48 rfl) (isX rfl) (denX rfl) (by first | rfl | (simp; done)) (by first | omega | (simp <;> omega))) ?_
  refine hcons (kCat (isSx (l := [u8 48]) 1 48 rfl) (isX rfl) (denX rfl) (by first | rfl | (simp; done)) (by first | omega | (simp <;> omega))) ?_
  refine hcons (kCat (isSx (l := [u8 48]) 1 48 rfl) (isX rfl) (denX rfl) (by first | rfl | (simp; done)) (by first | omega | (simp <;> omega))) ?_
  refine hcons (kCat (isSx (l := [u8 48]) 1 48 rfl) (isX rfl) (denX rfl) (by first | rfl | (simp; done)) (by first | omega | (simp <;> omega))) ?_
  refine hcons (kCat (isSx (l := [u8 48]) 1 48 rfl) (isX rfl) (denX rfl) (by first | rfl | (simp; done)) (by first | omega | (simp <;> omega))) ?_
  refine hcons (hokNum10 (s := ([u8 48, u8 48, u8 48, u8 48, u8 48, u8 48] ++ (digs 10 false (n % 10000)))) (isX rfl) (isI .i64 10) (isI .i64 9) (denT2 (denX rfl) (denB true)) (by first | omega | (simp only [List.length_append, List.length_cons, List.length_nil]; omega)) (by first | omega | (simp only [List.length_append, List.length_cons, List.length_nil]; omega)) (by first | omega | (simp only [List.length_append, List.length_cons, List.length_nil]; omega)) (okD_dz (big := false) (.inl rfl) 6 (n % 10000))) ?_
  refine hcons (hokNum16 (s := ([u8 48, u8 48, u8 48, u8 48, u8 48, u8 48] ++ (digs 16 false (n % 10000)))) (isX rfl) (isI .i64 16) (isI .i64 7) (denT2 (denX rfl) (denB true)) (by first | omega | (simp only [List.length_append, List.length_cons, List.length_nil]; omega)) (by first | omega | (simp only [List.length_append, List.length_cons, List.length_nil]; omega)) (by first | omega | (simp only [List.length_append, List.length_cons, List.length_nil]; omega)) (okD_dz (big := false) (.inr rfl) 6 (n % 10000))) ?_
  refine hcons (kLenE (isX rfl) (denX rfl) (by first | omega | (simp <;> omega))) ?_
  refine hcons (kLe (isX rfl) (isZ (m := 9) rfl) (decide_eq_true (by omega))) ?_
  refine hcons (kEqI (isX rfl) (isX rfl) (decide_eq_true (by omega))) ?_
  refine hcons (kLenE (isX rfl) (denX rfl) (by first | omega | (simp <;> omega))) ?_
  refine hcons (kLe (isX rfl) (isZ (m := 7) rfl) (decide_eq_true (by omega))) ?_
  refine hcons (kEqI (isX rfl) (isX rfl) (decide_eq_true (by omega))) ?_
  exact hnil
theorem path18 (n : Int) (zeros : Int) (b0 : 0 ≤ n) (b1 : n ≤ 4294967295) (b2 : 0 ≤ zeros) (b3 : zeros ≤ 255) (h0 : zeros % 8 = 6) (h1 : ¬ (9 < ((digs 10 false (n % 10000)).length : Int) + 6)) (h2 : ¬ (7 < ((digs 16 false (n % 10000)).length : Int) + 6)) (w : World) (hl : laidE w) : Calls Tryd.prog 5 #[.int .u32 n, .int .u8 zeros, .bool false] w fun e w' => e = .returned (.bool true) ∧ Go.AX.Below (Go.AX.Fz.lt w.heap.size) w w' := by
  have := digs_bd (B := 10) (big := false) (n % 10000)
  have := digs_dec4 (b := false) (k := n % 10000) (by omega) (by omega)
  have := digs_bd (B := 16) (big := false) (n % 10000)
  have := digs_hex4 (b := false) (k := n % 10000) (by omega) (by omega)
  have : valF 10 ([u8 48, u8 48, u8 48, u8 48, u8 48, u8 48] ++ (digs 10 false (n % 10000))) 0 = n % 10000 := val_dz (big := false) (.inl rfl) (k := n % 10000) (by omega) (by omega) 6
  have : valF 16 ([u8 48, u8 48, u8 48, u8 48, u8 48, u8 48] ++ (digs 16 false (n % 10000))) 0 = n % 10000 := val_dz (big := false) (.inr rfl) (k := n % 10000) (by omega) (by omega) 6
  obtain ⟨fi, hfi, hb⟩ : ∃ fi, tab18.fn.get 5 = some fi ∧ fi.body.isSome = true := ⟨_, (get_lps (by omega)), by show fi5.body.isSome = true; rw [fi5_body]; rfl⟩
  exact runP (tb := tab18) (AllOk.lp1 ((tabkOk (nuL (nu18 n zeros)) (one18 n zeros)).hyps (hyOk18 n zeros b0 b1 b2 b3 h0 h1 h2)) (by omega) fi5_at fi5_body (lfCons ⟨0, keyLd, lfOkLd (T := (digs 10 false (n % 10000))) (f := 10002) (x := n % 10000) (s := []) (isSx (l := ([] : List UInt8)) 0 0 rfl) (isX rfl) (denX rfl) (by omega) (by omega) (fun _ => by omega) rfl (by simp)⟩ (lfCons ⟨1, keyLn, lfOkLn (T := (digs 16 false (n % 10000))) (f := 10002) (x := n % 10000) (s := []) (isSx (l := ([] : List UInt8)) 0 0 rfl) (isX rfl) (isB false) (denX rfl) (by omega) (by omega) (fun _ => by omega) rfl (by simp)⟩ lfNil))) rfl hfi hb (run18 ) (args := [.int .u32 n, .int .u8 zeros, .bool false]) (by simp only [RelL, Rel]; exact ⟨_, _, rfl, rfl, ⟨_, _, rfl, rfl, ⟨_, _, rfl, rfl, rfl⟩⟩⟩) w hl
def hy19 : List (HK × AV) := [(.bin .rem (.x 0) (.i .u32 (.ofNat 10000)), .x 2),
  (.conv 3 (.x 2), .x 3),
  (.bin .rem (.x 1) (.i .u8 (.ofNat 8)), .i .u8 (.ofNat 6)),
  (.bin .add (.s 1 48) (.x 4), .x 6),
  (.bin .add (.s 1 48) (.x 5), .x 7),
  (.bin .add (.s 1 48) (.x 6), .x 8),
  (.bin .add (.s 1 48) (.x 7), .x 9),
  (.bin .add (.s 1 48) (.x 8), .x 10),
  (.bin .add (.s 1 48) (.x 9), .x 11),
  (.bin .add (.s 1 48) (.x 10), .x 12),
  (.bin .add (.s 1 48) (.x 11), .x 13),
  (.bin .add (.s 1 48) (.x 12), .x 14),
  (.bin .add (.s 1 48) (.x 13), .x 15),
  (.bin .add (.s 1 48) (.x 14), .x 16),
  (.bin .add (.s 1 48) (.x 15), .x 17),
  (.call 55 [.x 16, .i .i64 (.ofNat 10), .i .i64 (.ofNat 9)], .tu [.x 18, .b true]),
  (.call 55 [.x 17, .i .i64 (.ofNat 16), .i .i64 (.ofNat 7)], .tu [.x 19, .b true]),
  (.len (.x 16), .x 20),
  (.bin .leq (.x 20) (.i .i64 (.ofNat 9)), .b true),
  (.bin .eql (.x 18) (.x 3), .b true),
  (.len (.x 17), .x 21),
  (.bin .leq (.x 21) (.i .i64 (.ofNat 7)), .b true),
  (.bin .eql (.x 19) (.x 3), .b true)]
noncomputable def tab19 : Tab := addLps ({ tabk with hyp := hy19 }) 5 fi5 [(lfLd (.s 0 0) (.x 3) (.x 4)), (lfLu (.s 0 0) (.x 3) (.b true) (.x 5))]
theorem run19 : okB (call tab19 9000 5 [.x 0, .x 1, .b true] ⟨H0 , 7, 0, 0⟩) = true := by kernel_rfl
def nu19 (n : Int) (zeros : Int) : List Value := [.int .u32 (n),
  .int .u8 (zeros),
  .int .u32 (n % 10000),
  .int .i64 ((n % 10000)),
  St' (digs 10 false (n % 10000)),
  St' (digs 16 true (n % 10000)),
  St' ([u8 48] ++ (digs 10 false (n % 10000))),
  St' ([u8 48] ++ (digs 16 true (n % 10000))),
  St' ([u8 48, u8 48] ++ (digs 10 false (n % 10000))),
  St' ([u8 48, u8 48] ++ (digs 16 true (n % 10000))),
  St' ([u8 48, u8 48, u8 48] ++ (digs 10 false (n % 10000))),
  St' ([u8 48, u8 48, u8 48] ++ (digs 16 true (n % 10000))),
  St' ([u8 48, u8 48, u8 48, u8 48] ++ (digs 10 false (n % 10000))),
  St' ([u8 48, u8 48, u8 48, u8 48] ++ (digs 16 true (n % 10000))),
  St' ([u8 48, u8 48, u8 48, u8 48, u8 48] ++ (digs 10 false (n % 10000))),
  St' ([u8 48, u8 48, u8 48, u8 48, u8 48] ++ (digs 16 true (n % 10000))),
  St' ([u8 48, u8 48, u8 48, u8 48, u8 48, u8 48] ++ (digs 10 false (n % 10000))),
  St' ([u8 48, u8 48, u8 48, u8 48, u8 48, u8 48] ++ (digs 16 true (n % 10000))),
  .int .i64 (valF 10 ([u8 48, u8 48, u8 48, u8 48, u8 48, u8 48] ++ (digs 10 false (n % 10000))) 0),
  .int .i64 (valF 16 ([u8 48, u8 48, u8 48, u8 48, u8 48, u8 48] ++ (digs 16 true (n % 10000))) 0),
  .int .i64 (((digs 10 false (n % 10000)).length : Int) + 6),
  .int .i64 (((digs 16 true (n % 10000)).length : Int) + 6)]
theorem one19 (n : Int) (zeros : Int) : ∀ j, j < 1000000 → (nuL (nu19 n zeros) j).oneCell' = true := fun j _ => nuL_one (l := nu19 n zeros) rfl j
set_option maxHeartbeats 2000000 in
theorem hyOk19 (n : Int) (zeros : Int) (b0 : 0 ≤ n) (b1 : n ≤ 4294967295) (b2 : 0 ≤ zeros) (b3 : zeros ≤ 255) (h0 : zeros % 8 = 6) (h1 : ¬ (9 < ((digs 10 false (n % 10000)).length : Int) + 6)) (h2 : ¬ (7 < ((digs 16 true (n % 10000)).length : Int) + 6)) : ∀ k r, (k, r) ∈ hy19 → HOk (cx (nuL (nu19 n zeros)) (one19 n zeros) 0 laidE laidE_stab) k r := by
  have := digs_bd (B := 10) (big := false) (n % 10000)
  have := digs_dec4 (b := false) (k := n % 10000) (by omega) (by omega)
  have := digs_bd (B := 16) (big := true) (n % 10000)
  have := digs_hex4 (b := true) (k := n % 10000) (by omega) (by omega)
  have : valF 10 ([u8 48, u8 48, u8 48, u8 48, u8 48, u8 48] ++ (digs 10 false (n % 10000))) 0 = n % 10000 := val_dz (big := false) (.inl rfl) (k := n % 10000) (by omega) (by omega) 6
  have : valF 16 ([u8 48, u8 48, u8 48, u8 48, u8 48, u8 48] ++ (digs 16 true (n % 10000))) 0 = n % 10000 := val_dz (big := true) (.inr rfl) (k := n % 10000) (by omega) (by omega) 6
  unfold hy19
  refine hcons (kRem (isX rfl) (isZ (m := 10000) rfl) (denX rfl) (by omega) (by omega) rfl) ?_
  refine hcons (kConvF (isX rfl) tu3 (denX rfl) (fI64 (by omega) (by omega))) ?_
  refine hcons (kRem (isX rfl) (isZ (m := 8) rfl) (denZ (m := 6) rfl) (by omega) (by omega) (by omega)) ?_
  refine hcons (kCat (isSx (l := [u8 48]) 1 48 rfl) (isX rfl) (denX rfl) (by first | rfl | (simp; done)) (by first | omega | (simp <;> omega))) ?_
  refine hcons (kCat (isSx (l := [u8 48]) 1 48 rfl) (isX rfl) (denX rfl) (by first | rfl | (simp; done)) (by first | omega | (simp <;> omega))) ?_
  refine hcons (kCat (isSx (l := [u8 48]) 1 48 rfl) (isX rfl) (denX rfl) (by first | rfl | (simp; done)) (by first | omega | (simp <;> omega))) ?_
  refine hcons (kCat (isSx (l := [u8 48]) 1 48 rfl) (isX rfl) (denX rfl) (by first | rfl | (simp; done)) (by first | omega | (simp <;> omega))) ?_
  refine hcons (kCat (isSx (l := [u8 48]) 1 48 rfl) (isX rfl) (denX rfl) (by first | rfl | (simp; done)) (by first | omega | (simp <;> omega))) ?_
  refine hcons (kCat (isSx (l := [u8 48]) 1 48 rfl) (isX rfl) (denX rfl) (by first | rfl | (simp; done)) (by first | omega | (simp <;> omega))) ?_
  refine hcons (kCat (isSx (l := [u8 48]) 1 48 rfl) (isX rfl) (denX rfl) (by first | rfl | (simp; done)) (by first | omega | (simp <;> omega))) ?_
  refine hcons (kCat (isSx (l := [u8 48]) 1 48 rfl) (isX rfl) (denX rfl) (by first | rfl | (simp; done)) (by first | omega | (simp <;> omega))) ?_
  refine hcons (kCat (isSx (l := [u8 48]) 1 48 rfl) (isX rfl) (denX rfl) (by first | rfl | (simp; done)) (by first | omega | (simp <;> omega))) ?_
  refine hcons (kCat (isSx (l := [u8 48]) 1 48 rfl) (isX rfl) (denX rfl) (by first | rfl | (simp; done)) (by first | omega | (simp <;> omega))) ?_
  refine hcons (kCat (isSx (l := [u8 48]) 1 48 rfl) (isX rfl) (denX rfl) (by first | rfl | (simp; done)) (by first | omega | (simp <;> omega))) ?_
  refine hcons (kCat (isSx (l := [u8 48]) 1 48 rfl) (isX rfl) (denX rfl) (by first | rfl | (simp; done)) (by first | omega | (simp <;> omega))) ?_
  refine hcons (hokNum10 (s := ([u8 48, u8 48, u8 48, u8 48, u8 48, u8 48] ++ (digs 10 false (n % 10000)))) (isX rfl) (isI .i64 10) (isI .i64 9) (denT2 (denX rfl) (denB true)) (by first | omega | (simp only [List.length_append, List.length_cons, List.length_nil]; omega)) (by first | omega | (simp only [List.length_append, List.length_cons, List.length_nil]; omega)) (by first | omega | (simp only [List.length_append, List.length_cons, List.length_nil]; omega)) (okD_dz (big := false) (.inl rfl) 6 (n % 10000))) ?_
  refine hcons (hokNum16 (s := ([u8 48, u8 48, u8 48, u8 48, u8 48, u8 48] ++ (digs 16 true (n % 10000)))) (isX rfl) (isI .i64 16) (isI .i64 7) (denT2 (denX rfl) (denB true)) (by first | omega | (simp only [List.length_append, List.length_cons, List.length_nil]; omega)) (by first | omega | (simp only [List.length_append, List.length_cons, List.length_nil]; omega)) (by first | omega | (simp only [List.length_append, List.length_cons, List.length_nil]; omega)) (okD_dz (big := true) (.inr rfl) 6 (n % 10000))) ?_
  refine hcons (kLenE (isX rfl) (denX rfl) (by first | omega | (simp <;> omega))) ?_
  refine hcons (kLe (isX rfl) (isZ (m := 9) rfl) (decide_eq_true (by omega))) ?_
  refine hcons (kEqI (isX rfl) (isX rfl) (decide_eq_true (by omega))) ?_
  refine hcons (kLenE (isX rfl) (denX rfl) (by first | omega | (simp <;> omega))) ?_
  refine hcons (kLe (isX rfl) (isZ (m := 7) rfl) (decide_eq_true (by omega))) ?_
  refine hcons (kEqI (isX rfl) (isX rfl) (decide_eq_true (by omega))) ?_
  exact hnil
theorem path19 (n : Int) (zeros : Int) (b0 : 0 ≤ n) (b1 : n ≤ 4294967295) (b2 : 0 ≤ zeros) (b3 : zeros ≤ 255) (h0 : zeros % 8 = 6) (h1 : ¬ (9 < ((digs 10 false (n % 10000)).length : Int) + 6)) (h2 : ¬ (7 < ((digs 16 true (n % 10000)).length : Int) + 6)) (w : World) (hl : laidE w) : Calls Tryd.prog 5 #[.int .u32 n, .int .u8 zeros, .bool true] w fun e w' => e = .returned (.bool true) ∧ Go.AX.Below (Go.AX.Fz.lt w.heap.size) w w' := by
  have := digs_bd (B := 10) (big := false) (n % 10000)
  have := digs_dec4 (b := false) (k := n % 10000) (by omega) (by omega)
  have := digs_bd (B := 16) (big := true) (n % 10000)
  have := digs_hex4 (b := true) (k := n % 10000) (by omega) (by omega)
  have : valF 10 ([u8 48, u8 48, u8 48, u8 48, u8 48, u8 48] ++ (digs 10 false (n % 10000))) 0 = n % 10000 := val_dz (big := false) (.inl rfl) (k := n % 10000) (by omega) (by omega) 6
  have : valF 16 ([u8 48, u8 48, u8 48, u8 48, u8 48, u8 48] ++ (digs 16 true (n % 10000))) 0 = n % 10000 := val_dz (big := true) (.inr rfl) (k := n % 10000) (by omega) (by omega) 6
  obtain ⟨fi, hfi, hb⟩ : ∃ fi, tab19.fn.get 5 = some fi ∧ fi.body.isSome = true := ⟨_, (get_lps (by omega)), by show fi5.body.isSome = true; rw [fi5_body]; rfl⟩
  exact runP (tb := tab19) (AllOk.lp1 ((tabkOk (nuL (nu19 n zeros)) (one19 n zeros)).hyps (hyOk19 n zeros b0 b1 b2 b3 h0 h1 h2)) (by omega) fi5_at fi5_body (lfCons ⟨0, keyLd, lfOkLd (T := (digs 10 false (n % 10000))) (f := 10002) (x := n % 10000) (s := []) (isSx (l := ([] : List UInt8)) 0 0 rfl) (isX rfl) (denX rfl) (by omega) (by omega) (fun _ => by omega) rfl (by simp)⟩ (lfCons ⟨1, keyLu, lfOkLu (T := (digs 16 true (n % 10000))) (f := 10002) (x := n % 10000) (s := []) (isSx (l := ([] : List UInt8)) 0 0 rfl) (isX rfl) (isB true) (denX rfl) (by omega) (by omega) (fun _ => by omega) rfl (by simp)⟩ lfNil))) rfl hfi hb (run19 ) (args := [.int .u32 n, .int .u8 zeros, .bool true]) (by simp only [RelL, Rel]; exact ⟨_, _, rfl, rfl, ⟨_, _, rfl, rfl, ⟨_, _, rfl, rfl, rfl⟩⟩⟩) w hl
def hy20 : List (HK × AV) := [(.bin .rem (.x 0) (.i .u32 (.ofNat 10000)), .x 2),
  (.conv 3 (.x 2), .x 3),
  (.bin .rem (.x 1) (.i .u8 (.ofNat 8)), .i .u8 (.ofNat 7)),
  (.bin .add (.s 1 48) (.x 4), .x 6),
  (.bin .add (.s 1 48) (.x 5), .x 7),
  (.bin .add (.s 1 48) (.x 6), .x 8),
  (.bin .add (.s 1 48) (.x 7), .x 9),
  (.bin .add (.s 1 48) (.x 8), .x 10),
  (.bin .add (.s 1 48) (.x 9), .x 11),
  (.bin .add (.s 1 48) (.x 10), .x 12),
  (.bin .add (.s 1 48) (.x 11), .x 13),
  (.bin .add (.s 1 48) (.x 12), .x 14),
  (.bin .add (.s 1 48) (.x 13), .x 15),
  (.bin .add (.s 1 48) (.x 14), .x 16),
  (.bin .add (.s 1 48) (.x 15), .x 17),
  (.bin .add (.s 1 48) (.x 16), .x 18),
  (.bin .add (.s 1 48) (.x 17), .x 19),
  (.call 55 [.x 18, .i .i64 (.ofNat 10), .i .i64 (.ofNat 9)], .tu [.x 20, .b true]),
  (.call 55 [.x 19, .i .i64 (.ofNat 16), .i .i64 (.ofNat 7)], .tu [.i .i64 (.ofNat 0), .b false]),
  (.len (.x 18), .x 21),
  (.bin .leq (.x 21) (.i .i64 (.ofNat 9)), .b true),
  (.bin .eql (.x 20) (.x 3), .b true),
  (.len (.x 19), .x 22),
  (.bin .leq (.x 22) (.i .i64 (.ofNat 7)), .b false)]
noncomputable def tab20 : Tab := addLps ({ tabk with hyp := hy20 }) 5 fi5 [(lfLd (.s 0 0) (.x 3) (.x 4)), (lfLn (.s 0 0) (.x 3) (.b false) (.x 5))]
theorem run20 : okB (call tab20 9000 5 [.x 0, .x 1, .b false] ⟨H0 , 7, 0, 0⟩) = true := by kernel_rfl
def nu20 (n : Int) (zeros : Int) : List Value := [.int .u32 (n),
  .int .u8 (zeros),
  .int .u32 (n % 10000),
  .int .i64 ((n % 10000)),
  St' (digs 10 false (n % 10000)),
  St' (digs 16 false (n % 10000)),
  St' ([u8 48] ++ (digs 10 false (n % 10000))),
  St' ([u8 48] ++ (digs 16 false (n % 10000))),
  St' ([u8 48, u8 48] ++ (digs 10 false (n % 10000))),
  St' ([u8 48, u8 48] ++ (digs 16 false (n % 10000))),
  St' ([u8 48, u8 48, u8 48] ++ (digs 10 false (n % 10000))),
  St' ([u8 48, u8 48, u8 48] ++ (digs 16 false (n % 10000))),
  St' ([u8 48, u8 48, u8 48, u8 48] ++ (digs 10 false (n % 10000))),
  St' ([u8 48, u8 48, u8 48, u8 48] ++ (digs 16 false (n % 10000))),
  St' ([u8 48, u8 48, u8 48, u8 48, u8 48] ++ (digs 10 false (n % 10000))),
  St' ([u8 48, u8 48, u8 48, u8 48, u8 48] ++ (digs 16 false (n % 10000))),
  St' ([u8 48, u8 48, u8 48, u8 48, u8 48, u8 48] ++ (digs 10 false (n % 10000))),
  St' ([u8 48, u8 48, u8 48, u8 48, u8 48, u8 48] ++ (digs 16 false (n % 10000))),
  St' ([u8 48, u8 48, u8 48, u8 48, u8 48, u8 48, u8 48] ++ (digs 10 false (n % 10000))),
  St' ([u8 48, u8 48, u8 48, u8 48, u8 48, u8 48, u8 48] ++ (digs 16 false (n % 10000))),
  .int .i64 (valF 10 ([u8 48, u8 48, u8 48, u8 48, u8 48, u8 48, u8 48] ++ (digs 10 false (n % 10000))) 0),
  .int .i64 (((digs 10 false (n % 10000)).length : Int) + 7),
  .int .i64 (((digs 16 false (n % 10000)).length : Int) + 7)]
theorem one20 (n : Int) (zeros : Int) : ∀ j, j < 1000000 → (nuL (nu20 n zeros) j).oneCell' = true := fun j _ => nuL_one (l := nu20 n zeros) rfl j
set_option maxHeartbeats 2000000 in
theorem hyOk20 (n : Int) (zeros : Int) (b0 : 0 ≤ n) (b1 : n ≤ 4294967295) (b2 : 0 ≤ zeros) (b3 : zeros ≤ 255) (h0 : zeros % 8 = 7) (h1 : ¬ (9 < ((digs 10 false (n % 10000)).length : Int) + 7)) : ∀ k r, (k, r) ∈ hy20 → HOk (cx (nuL (nu20 n zeros)) (one20 n zeros) 0 laidE laidE_stab) k r := by
  have := digs_bd (B := 10) (big := false) (n % 10000)
  have := digs_dec4 (b := false) (k := n % 10000) (by omega) (by omega)
  have := digs_bd (B := 16) (big := false) (n % 10000)
  have := digs_hex4 (b := false) (k := n % 10000) (by omega) (by omega)
  have : valF 10 ([u8 48, u8 48, u8 48, u8 48, u8 48, u8 48, u8 48] ++ (digs 10 false (n % 10000))) 0 = n % 10000 := val_dz (big := false) (.inl rfl) (k := n % 10000) (by omega) (by omega) 7
  unfold hy20
  refine hcons (kRem (isX rfl) (isZ (m := 10000) rfl) (denX rfl) (by omega) (by omega) rfl) ?_
  refine hcons (kConvF (isX rfl) tu3 (denX rfl) (fI64 (by omega) (by omega))) ?_
  refine hcons (kRem (isX rfl) (isZ (m := 8) rfl) (denZ (m := 7) rfl) (by omega) (by omega) (by omega)) ?_
  refine hcons (kCat (isSx (l := [u8 48]) 1 48 rfl) (isX rfl) (denX rfl) (by first | rfl | (simp; done)) (by first | omega | (simp <;> omega))) ?_
  refine hcons (kCat (isSx (l := [u8 48]) 1 48 rfl) (isX rfl) (denX rfl) (by first | rfl | (simp; done)) (by first | omega | (simp <;> omega))) ?_
  refine hcons (kCat (isSx (l := [u8 48]) 1 48 rfl) (isX rfl) (denX rfl) (by first | rfl | (simp; done)) (by first | omega | (simp <;> omega))) ?_
  refine hcons (kCat (isSx (l := [u8 48]) 1 48 rfl) (isX rfl) (denX rfl) (by first | rfl | (simp; done)) (by first | omega | (simp <;> omega))) ?_
  refine hcons (kCat (isSx (l := [u8 48]) 1 48 rfl) (isX rfl) (denX rfl) (by first | rfl | (simp; done)) (by first | omega | (simp <;> omega))) ?_
  refine hcons (kCat (isSx (l := [u8 48]) 1 48 rfl) (isX rfl) (denX rfl) (by first | rfl | (simp; done)) (by first | omega | (simp <;> omega))) ?_
  refine hcons (kCat (isSx (l := [u8 48]) 1 48 rfl) (isX rfl) (denX rfl) (by first | rfl | (simp; done)) (by first | omega | (simp <;> omega))) ?_
  refine hcons (kCat (isSx (l := [u8 48]) 1 48 rfl) (isX rfl) (denX rfl) (by first | rfl | (simp; done)) (by first | omega | (simp <;> omega))) ?_
  refine hcons (kCat (isSx (l := [u8 48]) 1 48 rfl) (isX rfl) (denX rfl) (by first | rfl | (simp; done)) (by first | omega | (simp <;> omega))) ?_
  refine hcons (kCat (isSx (l := [u8 48]) 1 48 rfl) (isX rfl) (denX rfl) (by first | rfl | (simp; done)) (by first | omega | (simp <;> omega))) ?_
  refine hcons (kCat (isSx (l := [u8 48]) 1 48 rfl) (isX rfl) (denX rfl) (by first | rfl | (simp; done)) (by first | omega | (simp <;> omega))) ?_
  refine hcons (kCat (isSx (l := [u8 48]) 1 48 rfl) (isX rfl) (denX rfl) (by first | rfl | (simp; done)) (by first | omega | (simp <;> omega))) ?_
  refine hcons (kCat (isSx (l := [u8 48]) 1 48 rfl) (isX rfl) (denX rfl) (by first | rfl | (simp; done)) (by first | omega | (simp <;> omega))) ?_
  refine hcons (kCat (isSx (l := [u8 48]) 1 48 rfl) (isX rfl) (denX rfl) (by first | rfl | (simp; done)) (by first | omega | (simp <;> omega))) ?_
  refine hcons (hokNum10 (s := ([u8 48, u8 48, u8 48, u8 48, u8 48, u8 48, u8 48] ++ (digs 10 false (n % 10000)))) (isX rfl) (isI .i64 10) (isI .i64 9) (denT2 (denX rfl) (denB true)) (by first | omega | (simp only [List.length_append, List.length_cons, List.length_nil]; omega)) (by first | omega | (simp only [List.length_append, List.length_cons, List.length_nil]; omega)) (by first | omega | (simp only [List.length_append, List.length_cons, List.length_nil]; omega)) (okD_dz (big := false) (.inl rfl) 7 (n % 10000))) ?_
  refine hcons (hokLong16 (s := ([u8 48, u8 48, u8 48, u8 48, u8 48, u8 48, u8 48] ++ (digs 16 false (n % 10000)))) (isX rfl) (isI .i64 16) (isI .i64 7) (denT2 (denI .i64 0) (denB false)) (by first | omega | (simp only [List.length_append, List.length_cons, List.length_nil]; omega)) (by first | omega | (simp only [List.length_append, List.length_cons, List.length_nil]; omega))) ?_
  refine hcons (kLenE (isX rfl) (denX rfl) (by first | omega | (simp <;> omega))) ?_
  refine hcons (kLe (isX rfl) (isZ (m := 9) rfl) (decide_eq_true (by omega))) ?_
  refine hcons (kEqI (isX rfl) (isX rfl) (decide_eq_true (by omega))) ?_
  refine hcons (kLenE (isX rfl) (denX rfl) (by first | omega | (simp <;> omega))) ?_
  refine hcons (kLe (isX rfl) (isZ (m := 7) rfl) (decide_eq_false (by omega))) ?_
  exact hnil
theorem path20 (n : Int) (zeros : Int) (b0 : 0 ≤ n) (b1 : n ≤ 4294967295) (b2 : 0 ≤ zeros) (b3 : zeros ≤ 255) (h0 : zeros % 8 = 7) (h1 : ¬ (9 < ((digs 10 false (n % 10000)).length : Int) + 7)) (w : World) (hl : laidE w) : Calls Tryd.prog 5 #[.int .u32 n, .int .u8 zeros, .bool false] w fun e w' => e = .returned (.bool true) ∧ Go.AX.Below (Go.AX.Fz.lt w.heap.size) w w' := by
  have := digs_bd (B := 10) (big := false) (n % 10000)
  have := digs_dec4 (b := false) (k := n % 10000) (by omega) (by omega)
  have := digs_bd (B := 16) (big := false) (n % 10000)
  have := digs_hex4 (b := false) (k := n % 10000) (by omega) (by omega)
  have : valF 10 ([u8 48, u8 48, u8 48, u8 48, u8 48, u8 48, u8 48] ++ (digs 10 false (n % 10000))) 0 = n % 10000 := val_dz (big := false) (.inl rfl) (k := n % 10000) (by omega) (by omega) 7
  obtain ⟨fi, hfi, hb⟩ : ∃ fi, tab20.fn.get 5 = some fi ∧ fi.body.isSome = true := ⟨_, (get_lps (by omega)), by show fi5.body.isSome = true; rw [fi5_body]; rfl⟩
  exact runP (tb := tab20) (AllOk.lp1 ((tabkOk (nuL (nu20 n zeros)) (one20 n zeros)).hyps (hyOk20 n zeros b0 b1 b2 b3 h0 h1)) (by omega) fi5_at fi5_body (lfCons ⟨0, keyLd, lfOkLd (T := (digs 10 false (n % 10000))) (f := 10002) (x := n % 10000) (s := []) (isSx (l := ([] : List UInt8)) 0 0 rfl) (isX rfl) (denX rfl) (by omega) (by omega) (fun _ => by omega) rfl (by simp)⟩ (lfCons ⟨1, keyLn, lfOkLn (T := (digs 16 false (n % 10000))) (f := 10002) (x := n % 10000) (s := []) (isSx (l := ([] : List UInt8)) 0 0 rfl) (isX rfl) (isB false) (denX rfl) (by omega) (by omega) (fun _ => by omega) rfl (by simp)⟩ lfNil))) rfl hfi hb (run20 ) (args := [.int .u32 n, .int .u8 zeros, .bool false]) (by simp only [RelL, Rel]; exact ⟨_, _, rfl, rfl, ⟨_, _, rfl, rfl, ⟨_, _, rfl, rfl, rfl⟩⟩⟩) w hl
def hy21 : List (HK × AV) := [(.bin .rem (.x 0) (.i .u32 (.ofNat 10000)), .x 2),
  (.conv 3 (.x 2), .x 3),
  (.bin .rem (.x 1) (.i .u8 (.ofNat 8)), .i .u8 (.ofNat 7)),
  (.bin .add (.s 1 48) (.x 4), .x 6),
  (.bin .add (.s 1 48) (.x 5), .x 7),
  (.bin .add (.s 1 48) (.x 6), .x 8),
  (.bin .add (.s 1 48) (.x 7), .x 9),
  (.bin .add (.s 1 48) (.x 8), .x 10),
  (.bin .add (.s 1 48) (.x 9), .x 11),
  (.bin .add (.s 1 48) (.x 10), .x 12),
  (.bin .add (.s 1 48) (.x 11), .x 13),
  (.bin .add (.s 1 48) (.x 12), .x 14),
  (.bin .add (.s 1 48) (.x 13), .x 15),
  (.bin .add (.s 1 48) (.x 14), .x 16),
  (.bin .add (.s 1 48) (.x 15), .x 17),
  (.bin .add (.s 1 48) (.x 16), .x 18),
  (.bin .add (.s 1 48) (.x 17), .x 19),
  (.call 55 [.x 18, .i .i64 (.ofNat 10), .i .i64 (.ofNat 9)], .tu [.x 20, .b true]),
  (.call 55 [.x 19, .i .i64 (.ofNat 16), .i .i64 (.ofNat 7)], .tu [.i .i64 (.ofNat 0), .b false]),
  (.len (.x 18), .x 21),
  (.bin .leq (.x 21) (.i .i64 (.ofNat 9)), .b true),
  (.bin .eql (.x 20) (.x 3), .b true),
  (.len (.x 19), .x 22),
  (.bin .leq (.x 22) (.i .i64 (.ofNat 7)), .b false)]
noncomputable def tab21 : Tab := addLps ({ tabk with hyp := hy21 }) 5 fi5 [(lfLd (.s 0 0) (.x 3) (.x 4)), (lfLu (.s 0 0) (.x 3) (.b true) (.x 5))]
theorem run21 : okB (call tab21 9000 5 [.x 0, .x 1, .b true] ⟨H0 , 7, 0, 0⟩) = true := by kernel_rfl
def nu21 (n : Int) (zeros : Int) : List Value := [.int .u32 (n),
  .int .u8 (zeros),
  .int .u32 (n % 10000),
  .int .i64 ((n % 10000)),
  St' (digs 10 false (n % 10000)),
  St' (digs 16 true (n % 10000)),
  St' ([u8 48] ++ (digs 10 false (n % 10000))),
  St' ([u8 48] ++ (digs 16 true (n % 10000))),
  St' ([u8 48, u8 48] ++ (digs 10 false (n % 10000))),
  St' ([u8 48, u8 48] ++ (digs 16 true (n % 10000))),
  St' ([u8 48, u8 48, u8 48] ++ (digs 10 false (n % 10000))),
  St' ([u8 48, u8 48, u8 48] ++ (digs 16 true (n % 10000))),
  St' ([u8 48, u8 48, u8 48, u8 48] ++ (digs 10 false (n % 10000))),
  St' ([u8 48, u8 48, u8 48, u8 48] ++ (digs 16 true (n % 10000))),
  St' ([u8 48, u8 48, u8 48, u8 48, u8 48] ++ (digs 10 false (n % 10000))),
  St' ([u8 48, u8 48, u8 48, u8 48, u8 48] ++ (digs 16 true (n % 10000))),
  St' ([u8 48, u8 48, u8 48, u8 48, u8 48, u8 48] ++ (digs 10 false (n % 10000))),
  St' ([u8 48, u8 48, u8 48, u8 48, u8 48, u8 48] ++ (digs 16 true (n % 10000))),
  St' ([u8 48, u8 48, u8 48, u8 48, u8 48, u8 48, u8 48] ++ (digs 10 false (n % 10000))),
  St' ([u8 48, u8 48, u8 48, u8 48, u8 48, u8 48, u8 48] ++ (digs 16 true (n % 10000))),
  .int .i64 (valF 10 ([u8 48, u8 48, u8 48, u8 48, u8 48, u8 48, u8 48] ++ (digs 10 false (n % 10000))) 0),
  .int .i64 (((digs 10 false (n % 10000)).length : Int) + 7),
  .int .i64 (((digs 16 true (n % 10000)).length : Int) + 7)]
theorem one21 (n : Int) (zeros : Int) : ∀ j, j < 1000000 → (nuL (nu21 n zeros) j).oneCell' = true := fun j _ => nuL_one (l := nu21 n zeros) rfl j
set_option maxHeartbeats 2000000 in
theorem hyOk21 (n : Int) (zeros : Int) (b0 : 0 ≤ n) (b1 : n ≤ 4294967295) (b2 : 0 ≤ zeros) (b3 : zeros ≤ 255) (h0 : zeros % 8 = 7) (h1 : ¬ (9 < ((digs 10 false (n % 10000)).length : Int) + 7)) : ∀ k r, (k, r) ∈ hy21 → HOk (cx (nuL (nu21 n zeros)) (one21 n zeros) 0 laidE laidE_stab) k r := by
  have := digs_bd (B := 10) (big := false) (n % 10000)
  have := digs_dec4 (b := false) (k := n % 10000) (by omega) (by omega)
  have := digs_bd (B := 16) (big := true) (n % 10000)
  have := digs_hex4 (b := true) (k := n % 10000) (by omega) (by omega)
  have : valF 10 ([u8 48, u8 48, u8 48, u8 48, u8 48, u8 48, u8 48] ++ (digs 10 false (n % 10000))) 0 = n % 10000 := val_dz (big := false) (.inl rfl) (k := n % 10000) (by omega) (by omega) 7
  unfold hy21
  refine hcons (kRem (isX rfl) (isZ (m := 10000) rfl) (denX rfl) (by omega) (by omega) rfl) ?_
  refine hcons (kConvF (isX rfl) tu3 (denX rfl) (fI64 (by omega) (by omega))) ?_
  refine hcons (kRem (isX rfl) (isZ (m := 8) rfl) (denZ (m := 7) rfl) (by omega) (by omega) (by omega)) ?_
  refine hcons (kCat (isSx (l := [u8 48]) 1 48 rfl) (isX rfl) (denX rfl) (by first | rfl | (simp; done)) (by first | omega | (simp <;> omega))) ?_
  refine hcons (kCat (isSx (l := [u8 48]) 1 48 rfl) (isX rfl) (denX rfl) (by first | rfl | (simp; done)) (by first | omega | (simp <;> omega))) ?_
  refine hcons (kCat (isSx (l := [u8 48]) 1 48 rfl) (isX rfl) (denX rfl) (by first | rfl | (simp; done)) (by first | omega | (simp <;> omega))) ?_
  refine hcons (kCat (isSx (l := [u8 48]) 1 48 rfl) (isX rfl) (denX rfl) (by first | rfl | (simp; done)) (by first | omega | (simp <;> omega))) ?_
  refine hcons (kCat (isSx (l := [u8 48]) 1 48 rfl) (isX rfl) (denX rfl) (by first | rfl | (simp; done)) (by first | omega | (simp <;> omega))) ?_
  refine hcons (kCat (isSx (l := [u8 48]) 1 48 rfl) (isX rfl) (denX rfl) (by first | rfl | (simp; done)) (by first | omega | (simp <;> omega))) ?_
  refine hcons (kCat (isSx (l := [u8 48]) 1 48 rfl) (isX rfl) (denX rfl) (by first | rfl | (simp; done)) (by first | omega | (simp <;> omega))) ?_
  refine hcons (kCat (isSx (l := [u8 48]) 1 48 rfl) (isX rfl) (denX rfl) (by first | rfl | (simp; done)) (by first | omega | (simp <;> omega))) ?_
  refine hcons (kCat (isSx (l := [u8 48]) 1 48 rfl) (isX rfl) (denX rfl) (by first | rfl | (simp; done)) (by first | omega | (simp <;> omega))) ?_
  refine hcons (kCat (isSx (l := [u8 48]) 1 48 rfl) (isX rfl) (denX rfl) (by first | rfl | (simp; done)) (by first | omega | (simp <;> omega))) ?_
  refine hcons (kCat (isSx (l := [u8 48]) 1 48 rfl) (isX rfl) (denX rfl) (by first | rfl | (simp; done)) (by first | omega | (simp <;> omega))) ?_
  refine hcons (kCat (isSx (l := [u8 48]) 1 48 rfl) (isX rfl) (denX rfl) (by first | rfl | (simp; done)) (by first | omega | (simp <;> omega))) ?_
  refine hcons (kCat (isSx (l := [u8 48]) 1 48 rfl) (isX rfl) (denX rfl) (by first | rfl | (simp; done)) (by first | omega | (simp <;> omega))) ?_
  refine hcons (kCat (isSx (l := [u8 48]) 1 48 rfl) (isX rfl) (denX rfl) (by first | rfl | (simp; done)) (by first | omega | (simp <;> omega))) ?_
  refine hcons (hokNum10 (s := ([u8 48, u8 48, u8 48, u8 48, u8 48, u8 48, u8 48] ++ (digs 10 false (n % 10000)))) (isX rfl) (isI .i64 10) (isI .i64 9) (denT2 (denX rfl) (denB true)) (by first | omega | (simp only [List.length_append, List.length_cons, List.length_nil]; omega)) (by first | omega | (simp only [List.length_append, List.length_cons, List.length_nil]; omega)) (by first | omega | (simp only [List.length_append, List.length_cons, List.length_nil]; omega)) (okD_dz (big := false) (.inl rfl) 7 (n % 10000))) ?_
  refine hcons (hokLong16 (s := ([u8 48, u8 48, u8 48, u8 48, u8 48, u8 48, u8 48] ++ (digs 16 true (n % 10000)))) (isX rfl) (isI .i64 16) (isI .i64 7) (denT2 (denI .i64 0) (denB false)) (by first | omega | (simp only [List.length_append, List.length_cons, List.length_nil]; omega)) (by first | omega | (simp only [List.length_append, List.length_cons, List.length_nil]; omega))) ?_
  refine hcons (kLenE (isX rfl) (denX rfl) (by first | omega | (simp <;> omega))) ?_
  refine hcons (kLe (isX rfl) (isZ (m := 9) rfl) (decide_eq_true (by omega))) ?_
  refine hcons (kEqI (isX rfl) (isX rfl) (decide_eq_true (by omega))) ?_
  refine hcons (kLenE (isX rfl) (denX rfl) (by first | omega | (simp <;> omega))) ?_
  refine hcons (kLe (isX rfl) (isZ (m := 7) rfl) (decide_eq_false (by omega))) ?_
  exact hnil
theorem path21 (n : Int) (zeros : Int) (b0 : 0 ≤ n) (b1 : n ≤ 4294967295) (b2 : 0 ≤ zeros) (b3 : zeros ≤ 255) (h0 : zeros % 8 = 7) (h1 : ¬ (9 < ((digs 10 false (n % 10000)).length : Int) + 7)) (w : World) (hl : laidE w) : Calls Tryd.prog 5 #[.int .u32 n, .int .u8 zeros, .bool true] w fun e w' => e = .returned (.bool true) ∧ Go.AX.Below (Go.AX.Fz.lt w.heap.size) w w' := by
  have := digs_bd (B := 10) (big := false) (n % 10000)
  have := digs_dec4 (b := false) (k := n % 10000) (by omega) (by omega)
  have := digs_bd (B := 16) (big := true) (n % 10000)
  have := digs_hex4 (b := true) (k := n % 10000) (by omega) (by omega)
  have : valF 10 ([u8 48, u8 48, u8 48, u8 48, u8 48, u8 48, u8 48] ++ (digs 10 false (n % 10000))) 0 = n % 10000 := val_dz (big := false) (.inl rfl) (k := n % 10000) (by omega) (by omega) 7
  obtain ⟨fi, hfi, hb⟩ : ∃ fi, tab21.fn.get 5 = some fi ∧ fi.body.isSome = true := ⟨_, (get_lps (by omega)), by show fi5.body.isSome = true; rw [fi5_body]; rfl⟩
  exact runP (tb := tab21) (AllOk.lp1 ((tabkOk (nuL (nu21 n zeros)) (one21 n zeros)).hyps (hyOk21 n zeros b0 b1 b2 b3 h0 h1)) (by omega) fi5_at fi5_body (lfCons ⟨0, keyLd, lfOkLd (T := (digs 10 false (n % 10000))) (f := 10002) (x := n % 10000) (s := []) (isSx (l := ([] : List UInt8)) 0 0 rfl) (isX rfl) (denX rfl) (by omega) (by omega) (fun _ => by omega) rfl (by simp)⟩ (lfCons ⟨1, keyLu, lfOkLu (T := (digs 16 true (n % 10000))) (f := 10002) (x := n % 10000) (s := []) (isSx (l := ([] : List UInt8)) 0 0 rfl) (isX rfl) (isB true) (denX rfl) (by omega) (by omega) (fun _ => by omega) rfl (by simp)⟩ lfNil))) rfl hfi hb (run21 ) (args := [.int .u32 n, .int .u8 zeros, .bool true]) (by simp only [RelL, Rel]; exact ⟨_, _, rfl, rfl, ⟨_, _, rfl, rfl, ⟨_, _, rfl, rfl, rfl⟩⟩⟩) w hl
def hy22 : List (HK × AV) := [(.bin .rem (.x 0) (.i .u32 (.ofNat 10000)), .x 2),
  (.conv 3 (.x 2), .x 3),
  (.bin .rem (.x 1) (.i .u8 (.ofNat 8)), .i .u8 (.ofNat 6)),
  (.bin .add (.s 1 48) (.x 4), .x 6),
  (.bin .add (.s 1 48) (.x 5), .x 7),
  (.bin .add (.s 1 48) (.x 6), .x 8),
  (.bin .add (.s 1 48) (.x 7), .x 9),
  (.bin .add (.s 1 48) (.x 8), .x 10),
  (.bin .add (.s 1 48) (.x 9), .x 11),
  (.bin .add (.s 1 48) (.x 10), .x 12),
  (.bin .add (.s 1 48) (.x 11), .x 13),
  (.bin .add (.s 1 48) (.x 12), .x 14),
  (.bin .add (.s 1 48) (.x 13), .x 15),
  (.bin .add (.s 1 48) (.x 14), .x 16),
  (.bin .add (.s 1 48) (.x 15), .x 17),
  (.call 55 [.x 16, .i .i64 (.ofNat 10), .i .i64 (.ofNat 9)], .tu [.x 18, .b true]),
  (.call 55 [.x 17, .i .i64 (.ofNat 16), .i .i64 (.ofNat 7)], .tu [.i .i64 (.ofNat 0), .b false]),
  (.len (.x 16), .x 19),
  (.bin .leq (.x 19) (.i .i64 (.ofNat 9)), .b true),
  (.bin .eql (.x 18) (.x 3), .b true),
  (.len (.x 17), .x 20),
  (.bin .leq (.x 20) (.i .i64 (.ofNat 7)), .b false)]
noncomputable def tab22 : Tab := addLps ({ tabk with hyp := hy22 }) 5 fi5 [(lfLd (.s 0 0) (.x 3) (.x 4)), (lfLn (.s 0 0) (.x 3) (.b false) (.x 5))]
theorem run22 : okB (call tab22 9000 5 [.x 0, .x 1, .b false] ⟨H0 , 7, 0, 0⟩) = true := by kernel_rfl
def nu22 (n : Int) (zeros : Int) : List Value := [.int .u32 (n),
  .int .u8 (zeros),
  .int .u32 (n % 10000),
  .int .i64 ((n % 10000)),
  St' (digs 10 false (n % 10000)),
  St' (digs 16 false (n % 10000)),
  St' ([u8 48] ++ (digs 10 false (n % 10000))),
  St' ([u8 48] ++ (digs 16 false (n % 10000))),
  St' ([u8 48, u8 48] ++ (digs 10 false (n % 10000))),
  St' ([u8 48, u8 48] ++ (digs 16 false (n % 10000))),
  St' ([u8 48, u8 48, u8 48] ++ (digs 10 false (n % 10000))),
  St' ([u8 48, u8 48, u8 48] ++ (digs 16 false (n % 10000))),
  St' ([u8 48, u8 48, u8 48, u8 48] ++ (digs 10 false (n % 10000))),
  St' ([u8 48, u8 48, u8 48, u8 48] ++ (digs 16 false (n % 10000))),
  St' ([u8 48, u8 48, u8 48, u8 48, u8 48] ++ (digs 10 false (n % 10000))),
  St' ([u8 48, u8 48, u8 48, u8 48, u8 48] ++ (digs 16 false (n % 10000))),
  St' ([u8 48, u8 48, u8 48, u8 48, u8 48, u8 48] ++ (digs 10 false (n % 10000))),
  St' ([u8 48, u8 48, u8 48, u8 48, u8 48, u8 48] ++ (digs 16 false (n % 10000))),
  .int .i64 (valF 10 ([u8 48, u8 48, u8 48, u8 48, u8 48, u8 48] ++ (digs 10 false (n % 10000))) 0),
  .int .i64 (((digs 10 false (n % 10000)).length : Int) + 6),
  .int .i64 (((digs 16 false (n % 10000)).length : Int) + 6)]
theorem one22 (n : Int) (zeros : Int) : ∀ j, j < 1000000 → (nuL (nu22 n zeros) j).oneCell' = true := fun j _ => nuL_one (l := nu22 n zeros) rfl j
set_option maxHeartbeats 2000000 in
theorem hyOk22 (n : Int) (zeros : Int) (b0 : 0 ≤ n) (b1 : n ≤ 4294967295) (b2 : 0 ≤ zeros) (b3 : zeros ≤ 255) (h0 : zeros % 8 = 6) (h1 : ¬ (9 < ((digs 10 false (n % 10000)).length : Int) + 6)) (h2 : 7 < ((digs 16 false (n % 10000)).length : Int) + 6) : ∀ k r, (k, r) ∈ hy22 → HOk (cx (nuL (nu22 n zeros)) (one22 n zeros) 0 laidE laidE_stab) k r := by
  have := digs_bd (B := 10) (big := false) (n % 10000)
  have := digs_dec4 (b := false) (k := n % 10000) (by omega) (by omega)
  have := digs_bd (B := 16) (big := false) (n % 10000)
  have := digs_hex4 (b := false) (k := n % 10000) (by omega) (by omega)
  have : valF 10 ([u8 48, u8 48, u8 48, u8 48, u8 48, u8 48] ++ (digs 10 false (n % 10000))) 0 = n % 10000 := val_dz (big := false) (.inl rfl) (k := n % 10000) (by omega) (by omega) 6
  unfold hy22
  refine hcons (kRem (isX rfl) (isZ (m := 10000) rfl) (denX rfl) (by omega) (by omega) rfl) ?_
  refine hcons (kConvF (isX rfl) tu3 (denX rfl) (fI64 (by omega) (by omega))) ?_
  refine hcons (kRem (isX rfl) (isZ (m := 8) rfl) (denZ (m := 6) rfl) (by omega) (by omega) (by omega)) ?_
  refine hcons (kCat (isSx (l := [u8 48]) 1 48 rfl) (isX rfl) (denX rfl) (by first | rfl | (simp; done)) (by first | omega | (simp <;> omega))) ?_
  refine hcons (kCat (isSx (l := [u8 48]) 1 48 rfl) (isX rfl) (denX rfl) (by first | rfl | (simp; done)) (by first | omega | (simp <;> omega))) ?_
  refine hcons (kCat (isSx (l := [u8 48]) 1 48 rfl) (isX rfl) (denX rfl) (by first | rfl | (simp; done)) (by first | omega | (simp <;> omega))) ?_
  refine hcons (kCat (isSx (l := [u8 48]) 1 48 rfl) (isX rfl) (denX rfl) (by first | rfl | (simp; done)) (by first | omega | (simp <;> omega))) ?_
  refine hcons (kCat (isSx (l := [u8 48]) 1 48 rfl) (isX rfl) (denX rfl) (by first | rfl | (simp; done)) (by first | omega | (simp <;> omega))) ?_
  refine hcons (kCat (isSx (l := [u8 48]) 1 48 rfl) (isX rfl) (denX rfl) (by first | rfl | (simp; done)) (by first | omega | (simp <;> omega))) ?_
  refine hcons (kCat (isSx (l := [u8 48]) 1 48 rfl) (isX rfl) (denX rfl) (by first | rfl | (simp; done)) (by first | omega | (simp <;> omega))) ?_
  refine hcons (kCat (isSx (l := [u8 48]) 1 48 rfl) (isX rfl) (denX rfl) (by first | rfl | (simp; done)) (by first | omega | (simp <;> omega))) ?_
  refine hcons (kCat (isSx (l := [u8 48]) 1 48 rfl) (isX rfl) (denX rfl) (by first | rfl | (simp; done)) (by first | omega | (simp <;> omega))) ?_
  refine hcons (kCat (isSx (l := [u8 48]) 1 48 rfl) (isX rfl) (denX rfl) (by first | rfl | (simp; done)) (by first | omega | (simp <;> omega))) ?_
  refine hcons (kCat (isSx (l := [u8 48]) 1 48 rfl) (isX rfl) (denX rfl) (by first | rfl | (simp; done)) (by first | omega | (simp <;> omega))) ?_
  refine hcons (kCat (isSx (l := [u8 48]) 1 48 rfl) (isX rfl) (denX rfl) (by first | rfl | (simp; done)) (by first | omega | (simp <;> omega))) ?_
  refine hcons (hokNum10 (s := ([u8 48, u8 48, u8 48, u8 48, u8 48, u8 48] ++ (digs 10 false (n % 10000)))) (isX rfl) (isI .i64 10) (isI .i64 9) (denT2 (denX rfl) (denB true)) (by first | omega | (simp only [List.length_append, List.length_cons, List.length_nil]; omega)) (by first | omega | (simp only [List.length_append, List.length_cons, List.length_nil]; omega)) (by first | omega | (simp only [List.length_append, List.length_cons, List.length_nil]; omega)) (okD_dz (big := false) (.inl rfl) 6 (n % 10000))) ?_
  refine hcons (hokLong16 (s := ([u8 48, u8 48, u8 48, u8 48, u8 48, u8 48] ++ (digs 16 false (n % 10000)))) (isX rfl) (isI .i64 16) (isI .i64 7) (denT2 (denI .i64 0) (denB false)) (by first | omega | (simp only [List.length_append, List.length_cons, List.length_nil]; omega)) (by first | omega | (simp only [List.length_append, List.length_cons, List.length_nil]; omega))) ?_
  refine hcons (kLenE (isX rfl) (denX rfl) (by first | omega | (simp <;> omega))) ?_
  refine hcons (kLe (isX rfl) (isZ (m := 9) rfl) (decide_eq_true (by omega))) ?_
  refine hcons (kEqI (isX rfl) (isX rfl) (decide_eq_true (by omega))) ?_
  refine hcons (kLenE (isX rfl) (denX rfl) (by first | omega | (simp <;> omega))) ?_
  refine hcons (kLe (isX rfl) (isZ (m := 7) rfl) (decide_eq_false (by omega))) ?_
  exact hnil
theorem path22 (n : Int) (zeros : Int) (b0 : 0 ≤ n) (b1 : n ≤ 4294967295) (b2 : 0 ≤ zeros) (b3 : zeros ≤ 255) (h0 : zeros % 8 = 6) (h1 : ¬ (9 < ((digs 10 false (n % 10000)).length : Int) + 6)) (h2 : 7 < ((digs 16 false (n % 10000)).length : Int) + 6) (w : World) (hl : laidE w) : Calls Tryd.prog 5 #[.int .u32 n, .int .u8 zeros, .bool false] w fun e w' => e = .returned (.bool true) ∧ Go.AX.Below (Go.AX.Fz.lt w.heap.size) w w' := by
  have := digs_bd (B := 10) (big := false) (n % 10000)
  have := digs_dec4 (b := false) (k := n % 10000) (by omega) (by omega)
  have := digs_bd (B := 16) (big := false) (n % 10000)
  have := digs_hex4 (b := false) (k := n % 10000) (by omega) (by omega)
  have : valF 10 ([u8 48, u8 48, u8 48, u8 48, u8 48, u8 48] ++ (digs 10 false (n % 10000))) 0 = n % 10000 := val_dz (big := false) (.inl rfl) (k := n % 10000) (by omega) (by omega) 6
  obtain ⟨fi, hfi, hb⟩ : ∃ fi, tab22.fn.get 5 = some fi ∧ fi.body.isSome = true := ⟨_, (get_lps (by omega)), by show fi5.body.isSome = true; rw [fi5_body]; rfl⟩
  exact runP (tb := tab22) (AllOk.lp1 ((tabkOk (nuL (nu22 n zeros)) (one22 n zeros)).hyps (hyOk22 n zeros b0 b1 b2 b3 h0 h1 h2)) (by omega) fi5_at fi5_body (lfCons ⟨0, keyLd, lfOkLd (T := (digs 10 false (n % 10000))) (f := 10002) (x := n % 10000) (s := []) (isSx (l := ([] : List UInt8)) 0 0 rfl) (isX rfl) (denX rfl) (by omega) (by omega) (fun _ => by omega) rfl (by simp)⟩ (lfCons ⟨1, keyLn, lfOkLn (T := (digs 16 false (n % 10000))) (f := 10002) (x := n % 10000) (s := []) (isSx (l := ([] : List UInt8)) 0 0 rfl) (isX rfl) (isB false) (denX rfl) (by omega) (by omega) (fun _ => by omega) rfl (by simp)⟩ lfNil))) rfl hfi hb (run22 ) (args := [.int .u32 n, .int .u8 zeros, .bool false]) (by simp only [RelL, Rel]; exact ⟨_, _, rfl, rfl, ⟨_, _, rfl, rfl, ⟨_, _, rfl, rfl, rfl⟩⟩⟩) w hl
def hy23 : List (HK × AV) := [(.bin .rem (.x 0) (.i .u32 (.ofNat 10000)), .x 2),
  (.conv 3 (.x 2), .x 3),
  (.bin .rem (.x 1) (.i .u8 (.ofNat 8)), .i .u8 (.ofNat 6)),
  (.bin .add (.s 1 48) (.x 4), .x 6),
  (.bin .add (.s 1 48) (.x 5), .x 7),
  (.bin .add (.s 1 48) (.x 6), .x 8),
  (.bin .add (.s 1 48) (.x 7), .x 9),
  (.bin .add (.s 1 48) (.x 8), .x 10),
  (.bin .add (.s 1 48) (.x 9), .x 11),
  (.bin .add (.s 1 48) (.x 10), .x 12),
  (.bin .add (.s 1 48) (.x 11), .x 13),
  (.bin .add (.s 1 48) (.x 12), .x 14),
  (.bin .add (.s 1 48) (.x 13), .x 15),
  (.bin .add (.s 1 48) (.x 14), .x 16),
  (.bin .add (.s 1 48) (.x 15), .x 17),
  (.call 55 [.x 16, .i .i64 (.ofNat 10), .i .i64 (.ofNat 9)], .tu [.x 18, .b true]),
  (.call 55 [.x 17, .i .i64 (.ofNat 16), .i .i64 (.ofNat 7)], .tu [.i .i64 (.ofNat 0), .b false]),
  (.len (.x 16), .x 19),
  (.bin .leq (.x 19) (.i .i64 (.ofNat 9)), .b true),
  (.bin .eql (.x 18) (.x 3), .b true),
  (.len (.x 17), .x 20),
  (.bin .leq (.x 20) (.i .i64 (.ofNat 7)), .b false)]
noncomputable def tab23 : Tab := addLps ({ tabk with hyp := hy23 }) 5 fi5 [(lfLd (.s 0 0) (.x 3) (.x 4)), (lfLu (.s 0 0) (.x 3) (.b true) (.x 5))]
theorem run23 : okB (call tab23 9000 5 [.x 0, .x 1, .b true] ⟨H0 , 7, 0, 0⟩) = true := by kernel_rfl
def nu23 (n : Int) (zeros : Int) : List Value := [.int .u32 (n),
  .int .u8 (zeros),
  .int .u32 (n % 10000),
  .int .i64 ((n % 10000)),
  St' (digs 10 false (n % 10000)),
  St' (digs 16 true (n % 10000)),
  St' ([u8 48] ++ (digs 10 false (n % 10000))),
  St' ([u8 48] ++ (digs 16 true (n % 10000))),
  St' ([u8 48, u8 48] ++ (digs 10 false (n % 10000))),
  St' ([u8 48, u8 48] ++ (digs 16 true (n % 10000))),
  St' ([u8 48, u8 48, u8 48] ++ (digs 10 false (n % 10000))),
  St' ([u8 48, u8 48, u8 48] ++ (digs 16 true (n % 10000))),
  St' ([u8 48, u8 48, u8 48, u8 48] ++ (digs 10 false (n % 10000))),
  St' ([u8 48, u8 48, u8 48, u8 48] ++ (digs 16 true (n % 10000))),
  St' ([u8 48, u8 48, u8 48, u8 48, u8 48] ++ (digs 10 false (n % 10000))),
  St' ([u8 48, u8 48, u8 48, u8 48, u8 48] ++ (digs 16 true (n % 10000))),
  St' ([u8 48, u8 48, u8 48, u8 48, u8 48, u8 48] ++ (digs 10 false (n % 10000))),
  St' ([u8 48, u8 48, u8 48, u8 48, u8 48, u8 48] ++ (digs 16 true (n % 10000))),
  .int .i64 (valF 10 ([u8 48, u8 48, u8 48, u8 48, u8 48, u8 48] ++ (digs 10 false (n % 10000))) 0),
  .int .i64 (((digs 10 false (n % 10000)).length : Int) + 6),
  .int .i64 (((digs 16 true (n % 10000)).length : Int) + 6)]
theorem one23 (n : Int) (zeros : Int) : ∀ j, j < 1000000 → (nuL (nu23 n zeros) j).oneCell' = true := fun j _ => nuL_one (l := nu23 n zeros) rfl j
set_option maxHeartbeats 2000000 in
theorem hyOk23 (n : Int) (zeros : Int) (b0 : 0 ≤ n) (b1 : n ≤ 4294967295) (b2 : 0 ≤ zeros) (b3 : zeros ≤ 255) (h0 : zeros % 8 = 6) (h1 : ¬ (9 < ((digs 10 false (n % 10000)).length : Int) + 6)) (h2 : 7 < ((digs 16 true (n % 10000)).length : Int) + 6) : ∀ k r, (k, r) ∈ hy23 → HOk (cx (nuL (nu23 n zeros)) (one23 n zeros) 0 laidE laidE_stab) k r := by
  have := digs_bd (B := 10) (big := false) (n % 10000)
  have := digs_dec4 (b := false) (k := n % 10000) (by omega) (by omega)
  have := digs_bd (B := 16) (big := true) (n % 10000)
  have := digs_hex4 (b := true) (k := n % 10000) (by omega) (by omega)
  have : valF 10 ([u8 48, u8 48, u8 48, u8 48, u8 48, u8 48] ++ (digs 10 false (n % 10000))) 0 = n % 10000 := val_dz (big := false) (.inl rfl) (k := n % 10000) (by omega) (by omega) 6
  unfold hy23
  refine hcons (kRem (isX rfl) (isZ (m := 10000) rfl) (denX rfl) (by omega) (by omega) rfl) ?_
  refine hcons (kConvF (isX rfl) tu3 (denX rfl) (fI64 (by omega) (by omega))) ?_
  refine hcons (kRem (isX rfl) (isZ (m := 8) rfl) (denZ (m := 6) rfl) (by omega) (by omega) (by omega)) ?_
  refine hcons (kCat (isSx (l := [u8 48]) 1 48 rfl) (isX rfl) (denX rfl) (by first | rfl | (simp; done)) (by first | omega | (simp <;> omega))) ?_
  refine hcons (kCat (isSx (l := [u8 48]) 1 48 rfl) (isX rfl) (denX rfl) (by first | rfl | (simp; done)) (by first | omega | (simp <;> omega))) ?_
  refine hcons (kCat (isSx (l := [u8 48]) 1 48 rfl) (isX rfl) (denX rfl) (by first | rfl | (simp; done)) (by first | omega | (simp <;> omega))) ?_
  refine hcons (kCat (isSx (l := [u8 48]) 1 48 rfl) (isX rfl) (denX rfl) (by first | rfl | (simp; done)) (by first | omega | (simp <;> omega))) ?_
  refine hcons (kCat (isSx (l := [u8 48]) 1 48 rfl) (isX rfl) (denX rfl) (by first | rfl | (simp; done)) (by first | omega | (simp <;> omega))) ?_
  refine hcons (kCat (isSx (l := [u8 48]) 1 48 rfl) (isX rfl) (denX rfl) (by first | rfl | (simp; done)) (by first | omega | (simp <;> omega))) ?_
  refine hcons (kCat (isSx (l := [u8 48]) 1 48 rfl) (isX rfl) (denX rfl) (by first | rfl | (simp; done)) (by first | omega | (simp <;> omega))) ?_
  refine hcons (kCat (isSx (l := [u8 48]) 1 48 rfl) (isX rfl) (denX rfl) (by first | rfl | (simp; done)) (by first | omega | (simp <;> omega))) ?_
  refine hcons (kCat (isSx (l := [u8 48]) 1 48 rfl) (isX rfl) (denX rfl) (by first | rfl | (simp; done)) (by first | omega | (simp <;> omega))) ?_
  refine hcons (kCat (isSx (l := [u8 48]) 1 48 rfl) (isX rfl) (denX rfl) (by first | rfl | (simp; done)) (by first | omega | (simp <;> omega))) ?_
  refine hcons (kCat (isSx (l := [u8 48]) 1 48 rfl) (isX rfl) (denX rfl) (by first | rfl | (simp; done)) (by first | omega | (simp <;> omega))) ?_
  refine hcons (kCat (isSx (l := [u8 48]) 1 48 rfl) (isX rfl) (denX rfl) (by first | rfl | (simp; done)) (by first | omega | (simp <;> omega))) ?_
  refine hcons (hokNum10 (s := ([u8 48, u8 48, u8 48, u8 48, u8 48, u8 48] ++ (digs 10 false (n % 10000)))) (isX rfl) (isI .i64 10) (isI .i64 9) (denT2 (denX rfl) (denB true)) (by first | omega | (simp only [List.length_append, List.length_cons, List.length_nil]; omega)) (by first | omega | (simp only [List.length_append, List.length_cons, List.length_nil]; omega)) (by first | omega | (simp only [List.length_append, List.length_cons, List.length_nil]; omega)) (okD_dz (big := false) (.inl rfl) 6 (n % 10000))) ?_
  refine hcons (hokLong16 (s := ([u8 48, u8 48, u8 48, u8 48, u8 48, u8 48] ++ (digs 16 true (n % 10000)))) (isX rfl) (isI .i64 16) (isI .i64 7) (denT2 (denI .i64 0) (denB false)) (by first | omega | (simp only [List.length_append, List.length_cons, List.length_nil]; omega)) (by first | omega | (simp only [List.length_append, List.length_cons, List.length_nil]; omega))) ?_
  refine hcons (kLenE (isX rfl) (denX rfl) (by first | omega | (simp <;> omega))) ?_
  refine hcons (kLe (isX rfl) (isZ (m := 9) rfl) (decide_eq_true (by omega))) ?_
  refine hcons (kEqI (isX rfl) (isX rfl) (decide_eq_true (by omega))) ?_
  refine hcons (kLenE (isX rfl) (denX rfl) (by first | omega | (simp <;> omega))) ?_
  refine hcons (kLe (isX rfl) (isZ (m := 7) rfl) (decide_eq_false (by omega))) ?_
  exact hnil
theorem path23 (n : Int) (zeros : Int) (b0 : 0 ≤ n) (b1 : n ≤ 4294967295) (b2 : 0 ≤ zeros) (b3 : zeros ≤ 255) (h0 : zeros % 8 = 6) (h1 : ¬ (9 < ((digs 10 false (n % 10000)).length : Int) + 6)) (h2 : 7 < ((digs 16 true (n % 10000)).length : Int) + 6) (w : World) (hl : laidE w) : Calls Tryd.prog 5 #[.int .u32 n, .int .u8 zeros, .bool true] w fun e w' => e = .returned (.bool true) ∧ Go.AX.Below (Go.AX.Fz.lt w.heap.size) w w' := by
  have := digs_bd (B := 10) (big := false) (n % 10000)
  have := digs_dec4 (b := false) (k := n % 10000) (by omega) (by omega)
  have := digs_bd (B := 16) (big := true) (n % 10000)
  have := digs_hex4 (b := true) (k := n % 10000) (by omega) (by omega)
  have : valF 10 ([u8 48, u8 48, u8 48, u8 48, u8 48, u8 48] ++ (digs 10 false (n % 10000))) 0 = n % 10000 := val_dz (big := false) (.inl rfl) (k := n % 10000) (by omega) (by omega) 6
  obtain ⟨fi, hfi, hb⟩ : ∃ fi, tab23.fn.get 5 = some fi ∧ fi.body.isSome = true := ⟨_, (get_lps (by omega)), by show fi5.body.isSome = true; rw [fi5_body]; rfl⟩
  exact runP (tb := tab23) (AllOk.lp1 ((tabkOk (nuL (nu23 n zeros)) (one23 n zeros)).hyps (hyOk23 n zeros b0 b1 b2 b3 h0 h1 h2)) (by omega) fi5_at fi5_body (lfCons ⟨0, keyLd, lfOkLd (T := (digs 10 false (n % 10000))) (f := 10002) (x := n % 10000) (s := []) (isSx (l := ([] : List UInt8)) 0 0 rfl) (isX rfl) (denX rfl) (by omega) (by omega) (fun _ => by omega) rfl (by simp)⟩ (lfCons ⟨1, keyLu, lfOkLu (T := (digs 16 true (n % 10000))) (f := 10002) (x := n % 10000) (s := []) (isSx (l := ([] : List UInt8)) 0 0 rfl) (isX rfl) (isB true) (denX rfl) (by omega) (by omega) (fun _ => by omega) rfl (by simp)⟩ lfNil))) rfl hfi hb (run23 ) (args := [.int .u32 n, .int .u8 zeros, .bool true]) (by simp only [RelL, Rel]; exact ⟨_, _, rfl, rfl, ⟨_, _, rfl, rfl, ⟨_, _, rfl, rfl, rfl⟩⟩⟩) w hl
end Go.Proofs.YtacflaaahanhgaaDoor.octetNumbers
