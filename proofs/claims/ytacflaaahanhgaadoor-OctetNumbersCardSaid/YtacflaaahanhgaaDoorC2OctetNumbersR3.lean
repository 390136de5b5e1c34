/- A part of the proof: an interpreter of the model's own code on partly known states, and that what it answers is what the program answers. No condition of its own. -/
import Derived.Test.YtacflaaahanhgaaDoorC2OctetNumbersO
set_option maxRecDepth 100000
set_option linter.unusedVariables false
set_option linter.unusedSimpArgs false
namespace Go.Proofs.YtacflaaahanhgaaDoor.octetNumbers
open Go Go.AX Go.Proofs Go.Proofs.YtacflaaahanhgaaDoor
def hy24 : List (HK × AV) := [(.bin .rem (.x 0) (.i .u32 (.ofNat 10000)), .x 2),
  (.conv 3 (.x 2), .x 3),
  (.bin .rem (.x 1) (.i .u8 (.ofNat 8)), .i .u8 (.ofNat 4)),
  (.bin .add (.s 1 48) (.x 4), .x 6),
  (.bin .add (.s 1 48) (.x 5), .x 7),
  (.bin .add (.s 1 48) (.x 6), .x 8),
  (.bin .add (.s 1 48) (.x 7), .x 9),
  (.bin .add (.s 1 48) (.x 8), .x 10),
  (.bin .add (.s 1 48) (.x 9), .x 11),
  (.bin .add (.s 1 48) (.x 10), .x 12),
  (.bin .add (.s 1 48) (.x 11), .x 13),
  (.call 55 [.x 12, .i .i64 (.ofNat 10), .i .i64 (.ofNat 9)], .tu [.x 14, .b true]),
  (.call 55 [.x 13, .i .i64 (.ofNat 16), .i .i64 (.ofNat 7)], .tu [.i .i64 (.ofNat 0), .b false]),
  (.len (.x 12), .x 15),
  (.bin .leq (.x 15) (.i .i64 (.ofNat 9)), .b true),
  (.bin .eql (.x 14) (.x 3), .b true),
  (.len (.x 13), .x 16),
  (.bin .leq (.x 16) (.i .i64 (.ofNat 7)), .b false)]
noncomputable def tab24 : Tab := addLps ({ tabk with hyp := hy24 }) 5 fi5 [(lfLd (.s 0 0) (.x 3) (.x 4)), (lfLn (.s 0 0) (.x 3) (.b false) (.x 5))]
theorem run24 : okB (call tab24 9000 5 [.x 0, .x 1, .b false] ⟨H0 , 7, 0, 0⟩) = true := by kernel_rfl
def nu24 (n : Int) (zeros : Int) : List Value := [.int .u32 (n),
  .int .u8 (zeros),
  .int .u32 (n % 10000),
  .int .i64 ((n % 10000)),
  St' (digs 10 false (n % 10000)),
  St' (digs 16 false (n % 10000)),
  St' ([u8 48] ++ (digs 10 false (n % 10000))),
  St' ([u8 48] ++ (digs 16 false (n % 10000))),
  St' ([u8 48, u8 48] ++ (digs 10 false (n % 10000))),
  St' ([u8 48, u8 48] ++ (digs 16 false (n % 10000))),
  St' ([u8 48, u8 48, u8 48] ++ (digs 10 false (n % 10000))),
  St' ([u8 48, u8 48, u8 48] ++ (digs 16 false (n % 10000))),
  St' ([u8 48, u8 48, u8 48, u8 48] ++ (digs 10 false (n % 10000))),
  St' ([u8 48, u8 48, u8 48, u8 48] ++ (digs 16 false (n % 10000))),
  .int .i64 (valF 10 ([u8 48, u8 48, u8 48, u8 48] ++ (digs 10 false (n % 10000))) 0),
  .int .i64 (((digs 10 false (n % 10000)).length : Int) + 4),
  .int .i64 (((digs 16 false (n % 10000)).length : Int) + 4)]
theorem one24 (n : Int) (zeros : Int) : ∀ j, j < 1000000 → (nuL (nu24 n zeros) j).oneCell' = true := fun j _ => nuL_one (l := nu24 n zeros) rfl j
set_option maxHeartbeats 2000000 in
theorem hyOk24 (n : Int) (zeros : Int) (b0 : 0 ≤ n) (b1 : n ≤ 4294967295) (b2 : 0 ≤ zeros) (b3 : zeros ≤ 255) (h0 : zeros % 8 = 4) (h2 : 7 < ((digs 16 false (n % 10000)).length : Int) + 4) : ∀ k r, (k, r) ∈ hy24 → HOk (cx (nuL (nu24 n zeros)) (one24 n zeros) 0 laidE laidE_stab) k r := by
  have := digs_bd (B := 10) (big := false) (n % 10000)
  have := digs_dec4 (b := false) (k := n % 10000) (by omega) (by omega)
  have := digs_bd (B := 16) (big := false) (n % 10000)
  have := digs_hex4 (b := false) (k := n % 10000) (by omega) (by omega)
  have : valF 10 ([u8 48, u8 48, u8 48, u8 48] ++ (digs 10 false (n % 10000))) 0 = n % 10000 := val_dz (big := false) (.inl rfl) (k := n % 10000) (by omega) (by omega) 4
  unfold hy24
  refine hcons (kRem (isX rfl) (isZ (m := 10000) rfl) (denX rfl) (by omega) (by omega) rfl) ?_
  refine hcons (kConvF (isX rfl) tu3 (denX rfl) (fI64 (by omega) (by omega))) ?_
  refine hcons (kRem (isX rfl) (isZ (m := 8) rfl) (denZ (m := 4) rfl) (by omega) (by omega) (by omega)) ?_
  refine hcons (kCat (isSx (l := [u8 48]) 1 48 rfl) (isX rfl) (denX rfl) (by first | rfl | (simp; done)) (by first | omega | (simp <;> omega))) ?_
  refine hcons (kCat (isSx (l := [u8 48]) 1 48 rfl) (isX rfl) (denX rfl) (by first | rfl | (simp; done)) (by first | omega | (simp <;> omega))) ?_
  refine hcons (kCat (isSx (l := [u8 48]) 1 48 rfl) (isX rfl) (denX rfl) (by first | rfl | (simp; done)) (by first | omega | (simp <;> omega))) ?_
  refine hcons (kCat (isSx (l := [u8 48]) 1 48 rfl) (isX rfl) (denX rfl) (by first | rfl | (simp; done)) (by first | omega | (simp <;> omega))) ?_
  refine hcons (kCat (isSx (l := [u8 48]) 1 48 rfl) (isX rfl) (denX rfl) (by first | rfl | (simp; done)) (by first | omega | (simp <;> omega))) ?_
  refine hcons (kCat (isSx (l := [u8 48]) 1 48 rfl) (isX rfl) (denX rfl) (by first | rfl | (simp; done)) (by first | omega | (simp <;> omega))) ?_
  refine hcons (kCat (isSx (l := [u8 48]) 1 48 rfl) (isX rfl) (denX rfl) (by first | rfl | (simp; done)) (by first | omega | (simp <;> omega))) ?_
  refine hcons (kCat (isSx (l := [u8 48]) 1 48 rfl) (isX rfl) (denX rfl) (by first | rfl | (simp; done)) (by first | omega | (simp <;> omega))) ?_
  refine hcons (hokNum10 (s := ([u8 48, u8 48, u8 48, u8 48] ++ (digs 10 false (n % 10000)))) (isX rfl) (isI .i64 10) (isI .i64 9) (denT2 (denX rfl) (denB true)) (by first | omega | (simp only [List.length_append, List.length_cons, List.length_nil]; omega)) (by first | omega | (simp only [List.length_append, List.length_cons, List.length_nil]; omega)) (by first | omega | (simp only [List.length_append, List.length_cons, List.length_nil]; omega)) (okD_dz (big := false) (.inl rfl) 4 (n % 10000))) ?_
  refine hcons (hokLong16 (s := ([u8 48, u8 48, u8 48, u8 48] ++ (digs 16 false (n % 10000)))) (isX rfl) (isI .i64 16) (isI .i64 7) (denT2 (denI .i64 0) (denB false)) (by first | omega | (simp only [List.length_append, List.length_cons, List.length_nil]; omega)) (by first | omega | (simp only [List.length_append, List.length_cons, List.length_nil]; omega))) ?_
  refine hcons (kLenE (isX rfl) (denX rfl) (by first | omega | (simp <;> omega))) ?_
  refine hcons (kLe (isX rfl) (isZ (m := 9) rfl) (decide_eq_true (by omega))) ?_
  refine hcons (kEqI (isX rfl) (isX rfl) (decide_eq_true (by omega))) ?_
  refine hcons (kLenE (isX rfl) (denX rfl) (by first | omega | (simp <;> omega))) ?_
  refine hcons (kLe (isX rfl) (isZ (m := 7) rfl) (decide_eq_false (by omega))) ?_
  exact hnil
theorem path24 (n : Int) (zeros : Int) (b0 : 0 ≤ n) (b1 : n ≤ 4294967295) (b2 : 0 ≤ zeros) (b3 : zeros ≤ 255) (h0 : zeros % 8 = 4) (h2 : 7 < ((digs 16 false (n % 10000)).length : Int) + 4) (w : World) (hl : laidE w) : Calls Tryd.prog 5 #[.int .u32 n, .int .u8 zeros, .bool false] w fun e w' => e = .returned (.bool true) ∧ Go.AX.Below (Go.AX.Fz.lt w.heap.size) w w' := by
  have := digs_bd (B := 10) (big := false) (n % 10000)
  have := digs_dec4 (b := false) (k := n % 10000) (by omega) (by omega)
  have := digs_bd (B := 16) (big := false) (n % 10000)
  have := digs_hex4 (b := false) (k := n % 10000) (by omega) (by omega)
  have : valF 10 ([u8 48, u8 48, u8 48, u8 48] ++ (digs 10 false (n % 10000))) 0 = n % 10000 := val_dz (big := false) (.inl rfl) (k := n % 10000) (by omega) (by omega) 4
  obtain ⟨fi, hfi, hb⟩ : ∃ fi, tab24.fn.get 5 = some fi ∧ fi.body.isSome = true := ⟨_, (get_lps (by omega)), by show fi5.body.isSome = true; rw [fi5_body]; rfl⟩
  exact runP (tb := tab24) (AllOk.lp1 ((tabkOk (nuL (nu24 n zeros)) (one24 n zeros)).hyps (hyOk24 n zeros b0 b1 b2 b3 h0 h2)) (by omega) fi5_at fi5_body (lfCons ⟨0, keyLd, lfOkLd (T := (digs 10 false (n % 10000))) (f := 10002) (x := n % 10000) (s := []) (isSx (l := ([] : List UInt8)) 0 0 rfl) (isX rfl) (denX rfl) (by omega) (by omega) (fun _ => by omega) rfl (by simp)⟩ (lfCons ⟨1, keyLn, lfOkLn (T := (digs 16 false (n % 10000))) (f := 10002) (x := n % 10000) (s := []) (isSx (l := ([] : List UInt8)) 0 0 rfl) (isX rfl) (isB false) (denX rfl) (by omega) (by omega) (fun _ => by omega) rfl (by simp)⟩ lfNil))) rfl hfi hb (run24 ) (args := [.int .u32 n, .int .u8 zeros, .bool false]) (by simp only [RelL, Rel]; exact ⟨_, _, rfl, rfl, ⟨_, _, rfl, rfl, ⟨_, _, rfl, rfl, rfl⟩⟩⟩) w hl
def hy25 : List (HK × AV) := [(.bin .rem (.x 0) (.i .u32 (.ofNat 10000)), .x 2),
  (.conv 3 (.x 2), .x 3),
  (.bin .rem (.x 1) (.i .u8 (.ofNat 8)), .i .u8 (.ofNat 4)),
  (.bin .add (.s 1 48) (.x 4), .x 6),
  (.bin .add (.s 1 48) (.x 5), .x 7),
  (.bin .add (.s 1 48) (.x 6), .x 8),
  (.bin .add (.s 1 48) (.x 7), .x 9),
  (.bin .add (.s 1 48) (.x 8), .x 10),
  (.bin .add (.s 1 48) (.x 9), .x 11),
  (.bin .add (.s 1 48) (.x 10), .x 12),
  (.bin .add (.s 1 48) (.x 11), .x 13),
  (.call 55 [.x 12, .i .i64 (.ofNat 10), .i .i64 (.ofNat 9)], .tu [.x 14, .b true]),
  (.call 55 [.x 13, .i .i64 (.ofNat 16), .i .i64 (.ofNat 7)], .tu [.i .i64 (.ofNat 0), .b false]),
  (.len (.x 12), .x 15),
  (.bin .leq (.x 15) (.i .i64 (.ofNat 9)), .b true),
  (.bin .eql (.x 14) (.x 3), .b true),
  (.len (.x 13), .x 16),
  (.bin .leq (.x 16) (.i .i64 (.ofNat 7)), .b false)]
noncomputable def tab25 : Tab := addLps ({ tabk with hyp := hy25 }) 5 fi5 [(lfLd (.s 0 0) (.x 3) (.x 4)), (lfLu (.s 0 0) (.x 3) (.b true) (.x 5))]
theorem run25 : okB (call tab25 9000 5 [.x 0, .x 1, .b true] ⟨H0 , 7, 0, 0⟩) = true := by kernel_rfl
def nu25 (n : Int) (zeros : Int) : List Value := [.int .u32 (n),
  .int .u8 (zeros),
  .int .u32 (n % 10000),
  .int .i64 ((n % 10000)),
  St' (digs 10 false (n % 10000)),
  St' (digs 16 true (n % 10000)),
  St' ([u8 48] ++ (digs 10 false (n % 10000))),
  St' ([u8 48] ++ (digs 16 true (n % 10000))),
  St' ([u8 48, u8 48] ++ (digs 10 false (n % 10000))),
  St' ([u8 48, u8 48] ++ (digs 16 true (n % 10000))),
  St' ([u8 48, u8 48, u8 48] ++ (digs 10 false (n % 10000))),
  St' ([u8 48, u8 48, u8 48] ++ (digs 16 true (n % 10000))),
  St' ([u8 48, u8 48, u8 48, u8 48] ++ (digs 10 false (n % 10000))),
  St' ([u8 48, u8 48, u8 48, u8 48] ++ (digs 16 true (n % 10000))),
  .int .i64 (valF 10 ([u8 48, u8 48, u8 48, u8 48] ++ (digs 10 false (n % 10000))) 0),
  .int .i64 (((digs 10 false (n % 10000)).length : Int) + 4),
  .int .i64 (((digs 16 true (n % 10000)).length : Int) + 4)]
theorem one25 (n : Int) (zeros : Int) : ∀ j, j < 1000000 → (nuL (nu25 n zeros) j).oneCell' = true := fun j _ => nuL_one (l := nu25 n zeros) rfl j
set_option maxHeartbeats 2000000 in
theorem hyOk25 (n : Int) (zeros : Int) (b0 : 0 ≤ n) (b1 : n ≤ 4294967295) (b2 : 0 ≤ zeros) (b3 : zeros ≤ 255) (h0 : zeros % 8 = 4) (h2 : 7 < ((digs 16 true (n % 10000)).length : Int) + 4) : ∀ k r, (k, r) ∈ hy25 → HOk (cx (nuL (nu25 n zeros)) (one25 n zeros) 0 laidE laidE_stab) k r := by
  have := digs_bd (B := 10) (big := false) (n % 10000)
  have := digs_dec4 (b := false) (k := n % 10000) (by omega) (by omega)
  have := digs_bd (B := 16) (big := true) (n % 10000)
  have := digs_hex4 (b := true) (k := n % 10000) (by omega) (by omega)
  have : valF 10 ([u8 48, u8 48, u8 48, u8 48] ++ (digs 10 false (n % 10000))) 0 = n % 10000 := val_dz (big := false) (.inl rfl) (k := n % 10000) (by omega) (by omega) 4
  unfold hy25
  refine hcons (kRem (isX rfl) (isZ (m := 10000) rfl) (denX rfl) (by omega) (by omega) rfl) ?_
  refine hcons (kConvF (isX rfl) tu3 (denX rfl) (fI64 (by omega) (by omega))) ?_
  refine hcons (kRem (isX rfl) (isZ (m := 8) rfl) (denZ (m := 4) rfl) (by omega) (by omega) (by omega)) ?_
  refine hcons (kCat (isSx (l := [u8 48]) 1 48 rfl) (isX rfl) (denX rfl) (by first | rfl | (simp; done)) (by first | omega | (simp <;> omega))) ?_
  refine hcons (kCat (isSx (l := [u8 48]) 1 48 rfl) (isX rfl) (denX rfl) (by first | rfl | (simp; done)) (by first | omega | (simp <;> omega))) ?_
  refine hcons (kCat (isSx (l := [u8 48]) 1 48 rfl) (isX rfl) (denX rfl) (by first | rfl | (simp; done)) (by first | omega | (simp <;> omega))) ?_
  refine hcons (kCat (isSx (l := [u8 48]) 1 48 rfl) (isX rfl) (denX rfl) (by first | rfl | (simp; done)) (by first | omega | (simp <;> omega))) ?_
  refine hcons (kCat (isSx (l := [u8 48]) 1 48 rfl) (isX rfl) (denX rfl) (by first | rfl | (simp; done)) (by first | omega | (simp <;> omega))) ?_
  refine hcons (kCat (isSx (l := [u8 48]) 1 48 rfl) (isX rfl) (denX rfl) (by first | rfl | (simp; done)) (by first | omega | (simp <;> omega))) ?_
  refine hcons (kCat (isSx (l := [u8 48]) 1 48 rfl) (isX rfl) (denX rfl) (by first | rfl | (simp; done)) (by first | omega | (simp <;> omega))) ?_
  refine hcons (kCat (isSx (l := [u8 48]) 1 48 rfl) (isX rfl) (denX rfl) (by first | rfl | (simp; done)) (by first | omega | (simp <;> omega))) ?_
  refine hcons (hokNum10 (s := ([u8 48, u8 48, u8 48, u8 48] ++ (digs 10 false (n % 10000)))) (isX rfl) (isI .i64 10) (isI .i64 9) (denT2 (denX rfl) (denB true)) (by first | omega | (simp only [List.length_append, List.length_cons, List.length_nil]; omega)) (by first | omega | (simp only [List.length_append, List.length_cons, List.length_nil]; omega)) (by first | omega | (simp only [List.length_append, List.length_cons, List.length_nil]; omega)) (okD_dz (big := false) (.inl rfl) 4 (n % 10000))) ?_
  refine hcons (hokLong16 (s := ([u8 48, u8 48, u8 48, u8 48] ++ (digs 16 true (n % 10000)))) (isX rfl) (isI .i64 16) (isI .i64 7) (denT2 (denI .i64 0) (denB false)) (by first | omega | (simp only [List.length_append, List.length_cons, List.length_nil]; omega)) (by first | omega | (simp only [List.length_append, List.length_cons, List.length_nil]; omega))) ?_
  refine hcons (kLenE (isX rfl) (denX rfl) (by first | omega | (simp <;> omega))) ?_
  refine hcons (kLe (isX rfl) (isZ (m := 9) rfl) (decide_eq_true (by omega))) ?_
  refine hcons (kEqI (isX rfl) (isX rfl) (decide_eq_true (by omega))) ?_
  refine hcons (kLenE (isX rfl) (denX rfl) (by first | omega | (simp <;> omega))) ?_
  refine hcons (kLe (isX rfl) (isZ (m := 7) rfl) (decide_eq_false (by omega))) ?_
  exact hnil
theorem path25 (n : Int) (zeros : Int) (b0 : 0 ≤ n) (b1 : n ≤ 4294967295) (b2 : 0 ≤ zeros) (b3 : zeros ≤ 255) (h0 : zeros % 8 = 4) (h2 : 7 < ((digs 16 true (n % 10000)).length : Int) + 4) (w : World) (hl : laidE w) : Calls Tryd.prog 5 #[.int .u32 n, .int .u8 zeros, .bool true] w fun e w' => e = .returned (.bool true) ∧ Go.AX.Below (Go.AX.Fz.lt w.heap.size) w w' := by
  have := digs_bd (B := 10) (big := false) (n % 10000)
  have := digs_dec4 (b := false) (k := n % 10000) (by omega) (by omega)
  have := digs_bd (B := 16) (big := true) (n % 10000)
  have := digs_hex4 (b := true) (k := n % 10000) (by omega) (by omega)
  have : valF 10 ([u8 48, u8 48, u8 48, u8 48] ++ (digs 10 false (n % 10000))) 0 = n % 10000 := val_dz (big := false) (.inl rfl) (k := n % 10000) (by omega) (by omega) 4
  obtain ⟨fi, hfi, hb⟩ : ∃ fi, tab25.fn.get 5 = some fi ∧ fi.body.isSome = true := ⟨_, (get_lps (by omega)), by show fi5.body.isSome = true; rw [fi5_body]; rfl⟩
  exact runP (tb := tab25) (AllOk.lp1 ((tabkOk (nuL (nu25 n zeros)) (one25 n zeros)).hyps (hyOk25 n zeros b0 b1 b2 b3 h0 h2)) (by omega) fi5_at fi5_body (lfCons ⟨0, keyLd, lfOkLd (T := (digs 10 false (n % 10000))) (f := 10002) (x := n % 10000) (s := []) (isSx (l := ([] : List UInt8)) 0 0 rfl) (isX rfl) (denX rfl) (by omega) (by omega) (fun _ => by omega) rfl (by simp)⟩ (lfCons ⟨1, keyLu, lfOkLu (T := (digs 16 true (n % 10000))) (f := 10002) (x := n % 10000) (s := []) (isSx (l := ([] : List UInt8)) 0 0 rfl) (isX rfl) (isB true) (denX rfl) (by omega) (by omega) (fun _ => by omega) rfl (by simp)⟩ lfNil))) rfl hfi hb (run25 ) (args := [.int .u32 n, .int .u8 zeros, .bool true]) (by simp only [RelL, Rel]; exact ⟨_, _, rfl, rfl, ⟨_, _, rfl, rfl, ⟨_, _, rfl, rfl, rfl⟩⟩⟩) w hl
end Go.Proofs.YtacflaaahanhgaaDoor.octetNumbers
