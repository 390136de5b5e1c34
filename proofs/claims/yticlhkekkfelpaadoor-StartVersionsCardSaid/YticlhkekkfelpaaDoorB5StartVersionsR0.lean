/- A part of the proof: an interpreter of the model's own code on partly known states, and that what it answers is what the program answers. No condition of its own. -/
import Derived.Test.YticlhkekkfelpaaDoorB5StartVersionsO
set_option maxRecDepth 100000
set_option linter.unusedVariables false
set_option linter.unusedSimpArgs false
namespace Go.Proofs.YticlhkekkfelpaaDoor.startVersions
open Go Go.AX Go.Proofs Go.Proofs.YticlhkekkfelpaaDoor
def hy0 : List (HK × AV) := [(.bin .eql (.x 0) (.i .u8 (.ofNat 32)), .b false),
  (.bin .eql (.x 1) (.i .u8 (.ofNat 32)), .b false),
  (.bytes [.x 0], .x 2),
  (.bin .add (.s 11 57198858440158818717680967) (.x 2), .x 3),
  (.bin .add (.x 3) (.s 1 46), .x 4),
  (.bytes [.x 1], .x 5),
  (.bin .add (.x 4) (.x 5), .x 6),
  (.ext 157 [.x 6, .i .u8 (.ofNat 32)], .i .i64 (.ofNat 2)),
  (.len (.x 6), .i .i64 (.ofNat 14)),
  (.bin .eql (.s 1 32) (.x 6), .b false),
  (.ext 183 [.x 6, .i .u8 (.ofNat 32)], .i .i64 (.ofNat 3)),
  (.sub (.x 6) none (some (.i .i64 (.ofNat 3))), .x 7),
  (.sub (.x 6) (some (.i .i64 (.ofNat 4))) none, .x 8),
  (.bin .eql (.s 1 32) (.x 8), .b false),
  (.ext 183 [.x 8, .i .u8 (.ofNat 32)], .i .i64 (.ofNat 1)),
  (.sub (.x 8) none (some (.i .i64 (.ofNat 1))), .x 9),
  (.sub (.x 8) (some (.i .i64 (.ofNat 2))) none, .x 10),
  (.len (.x 7), .i .i64 (.ofNat 3)),
  (.idx (.x 7) (.i .i64 (.ofNat 0)), .i .u8 (.ofNat 71)),
  (.idx (.x 7) (.i .i64 (.ofNat 1)), .i .u8 (.ofNat 69)),
  (.idx (.x 7) (.i .i64 (.ofNat 2)), .i .u8 (.ofNat 84)),
  (.bin .neq (.x 7) (.s 0 0), .b true),
  (.bin .eql (.x 10) (.s 8 3471766442030158920), .b true),
  (.bin .eql (.x 9) (.s 1 42), .b false),
  (.len (.x 9), .i .i64 (.ofNat 1)),
  (.sub (.x 9) none (some (.i .i64 (.ofNat 1))), .x 11),
  (.bin .eql (.x 11) (.s 1 47), .b true),
  (.idx (.x 9) (.i .i64 (.ofNat 0)), .i .u8 (.ofNat 47)),
  (.len (.x 10), .i .i64 (.ofNat 8)),
  (.idx (.x 10) (.i .i64 (.ofNat 7)), .x 12),
  (.bin .sub (.x 12) (.i .u8 (.ofNat 48)), .x 13),
  (.conv 3 (.x 13), .x 14),
  (.bin .eql (.x 0) (.i .u8 (.ofNat 49)), .b true),
  (.bin .eql (.x 1) (.i .u8 (.ofNat 48)), .b true),
  (.bin .sub (.x 1) (.i .u8 (.ofNat 48)), .x 15),
  (.conv 3 (.x 15), .x 16),
  (.bin .eql (.x 14) (.x 16), .b true)]
noncomputable def tab0 : Tab := { tabk with hyp := hy0 }
theorem run0 (e : Nat) : okB (call tab0 9000 4 [.x 0, .x 1] ⟨H0 e , 7, 0, 0⟩) = true := by kernel_rfl
def nu0 (a : Int) (b : Int) : List Value := [.int .u8 (a),
  .int .u8 (b),
  St' ([u8 (a)]),
  St' ([u8 71, u8 69, u8 84, u8 32, u8 47, u8 32, u8 72, u8 84, u8 84, u8 80, u8 47, u8 (a)]),
  St' ([u8 71, u8 69, u8 84, u8 32, u8 47, u8 32, u8 72, u8 84, u8 84, u8 80, u8 47, u8 (a), u8 46]),
  St' ([u8 (b)]),
  St' ([u8 71, u8 69, u8 84, u8 32, u8 47, u8 32, u8 72, u8 84, u8 84, u8 80, u8 47, u8 (a), u8 46, u8 (b)]),
  St' ([u8 71, u8 69, u8 84]),
  St' ([u8 47, u8 32, u8 72, u8 84, u8 84, u8 80, u8 47, u8 (a), u8 46, u8 (b)]),
  St' ([u8 47]),
  St' ([u8 72, u8 84, u8 84, u8 80, u8 47, u8 (a), u8 46, u8 (b)]),
  St' ([u8 47]),
  .int .u8 (b),
  .int .u8 (b - 48),
  .int .i64 (b - 48),
  .int .u8 (b - 48),
  .int .i64 (b - 48)]
theorem one0 (a : Int) (b : Int) : ∀ j, (nuL (nu0 a b) j).oneCell' = true := nuL_one (l := nu0 a b) rfl
set_option maxHeartbeats 2000000 in
theorem hyOk0 (a : Int) (b : Int) (b0 : 0 ≤ a) (b1 : a ≤ 255) (b2 : 0 ≤ b) (b3 : b ≤ 255) (h0 : ¬ (a = 32)) (h1 : ¬ (b = 32)) (h5 : a = 49) (h6 : b = 48) : ∀ k r, (k, r) ∈ hy0 → HOk (cx (nuL (nu0 a b)) (one0 a b) 1 laidE laidE_stab) k r := by
  unfold hy0
  refine hcons (kEqI (isX rfl) (isZ (m := 32) rfl) (decide_eq_false (by omega))) ?_
  refine hcons (kEqI (isX rfl) (isZ (m := 32) rfl) (decide_eq_false (by omega))) ?_
  refine hcons (kBytesB (bs := [u8 (a)]) (.cons (isB8 (isX rfl) (by omega) (by omega)) .nil) (denX rfl)) ?_
  refine hcons (kCat (isSx (l := [u8 71, u8 69, u8 84, u8 32, u8 47, u8 32, u8 72, u8 84, u8 84, u8 80, u8 47]) 11 57198858440158818717680967 rfl) (isX rfl) (denX rfl) (by first | rfl | (simp only [List.append_assoc, List.cons_append, List.nil_append, List.append_nil]; done)) (by first | omega | (simp only [List.length_append, List.length_cons, List.length_nil, List.length_take, List.length_drop, List.length_replicate, Int.natCast_add] at *; omega))) ?_
  refine hcons (kCat (isX rfl) (isSx (l := [u8 46]) 1 46 rfl) (denX rfl) (by first | rfl | (simp only [List.append_assoc, List.cons_append, List.nil_append, List.append_nil]; done)) (by first | omega | (simp only [List.length_append, List.length_cons, List.length_nil, List.length_take, List.length_drop, List.length_replicate, Int.natCast_add] at *; omega))) ?_
  refine hcons (kBytesB (bs := [u8 (b)]) (.cons (isB8 (isX rfl) (by omega) (by omega)) .nil) (denX rfl)) ?_
  refine hcons (kCat (isX rfl) (isX rfl) (denX rfl) (by first | rfl | (simp only [List.append_assoc, List.cons_append, List.nil_append, List.append_nil]; done)) (by first | omega | (simp only [List.length_append, List.length_cons, List.length_nil, List.length_take, List.length_drop, List.length_replicate, Int.natCast_add] at *; omega))) ?_
  refine hcons (kExtC (n := 2) exF157 exA157 exB157 (isX rfl) (isZ (m := 32) rfl) (denI .i64 2) ((cnN (by omega) (cnN (by omega) (cnN (by omega) (cnE (m := 1) (n := 2) (by omega) (cnN (by omega) (cnE (m := 0) (n := 1) (by omega) (cnN (by omega) (cnN (by omega) (cnN (by omega) (cnN (by omega) (cnN (by omega) (cnN (by omega) (cnN (by omega) (cnN (by omega) cnZ)))))))) (by omega))) (by omega))))))) ?_
  refine hcons (kLenE (isX rfl) (denZ (m := 14) rfl) rfl) ?_
  refine hcons (kEqS (isSx (l := [u8 32]) 1 32 rfl) (isX rfl) (neLen (by first | omega | (simp only [List.length_append, List.length_cons, List.length_nil, List.length_take, List.length_drop, List.length_replicate, Int.natCast_add] at *; omega)))) ?_
  refine hcons (kExtI (n := 3) exF183 exA183 exB183 (isX rfl) (isZ (m := 32) rfl) (denI .i64 3) ((ixN (m := 2) (n := 3) (by omega) (ixN (m := 1) (n := 2) (by omega) (ixN (m := 0) (n := 1) (by omega) (ixE (by omega)) (by omega)) (by omega)) (by omega)))) ?_
  refine hcons (kCut (isX rfl) (.inl ⟨rfl, rfl⟩) (.inr ⟨_, _, rfl, (isZ (m := 3) rfl)⟩) (p := ([] : List UInt8)) (m := [u8 71, u8 69, u8 84]) (q := [u8 32, u8 47, u8 32, u8 72, u8 84, u8 84, u8 80, u8 47, u8 (a), u8 46, u8 (b)]) rfl rfl rfl (denX rfl)) ?_
  refine hcons (kCut (isX rfl) (.inr ⟨_, _, rfl, (isZ (m := 4) rfl)⟩) (.inl ⟨rfl, rfl⟩) (p := [u8 71, u8 69, u8 84, u8 32]) (m := [u8 47, u8 32, u8 72, u8 84, u8 84, u8 80, u8 47, u8 (a), u8 46, u8 (b)]) (q := ([] : List UInt8)) rfl rfl rfl (denX rfl)) ?_
  refine hcons (kEqS (isSx (l := [u8 32]) 1 32 rfl) (isX rfl) (neLen (by first | omega | (simp only [List.length_append, List.length_cons, List.length_nil, List.length_take, List.length_drop, List.length_replicate, Int.natCast_add] at *; omega)))) ?_
  refine hcons (kExtI (n := 1) exF183 exA183 exB183 (isX rfl) (isZ (m := 32) rfl) (denI .i64 1) ((ixN (m := 0) (n := 1) (by omega) (ixE (by omega)) (by omega)))) ?_
  refine hcons (kCut (isX rfl) (.inl ⟨rfl, rfl⟩) (.inr ⟨_, _, rfl, (isZ (m := 1) rfl)⟩) (p := ([] : List UInt8)) (m := [u8 47]) (q := [u8 32, u8 72, u8 84, u8 84, u8 80, u8 47, u8 (a), u8 46, u8 (b)]) rfl rfl rfl (denX rfl)) ?_
  refine hcons (kCut (isX rfl) (.inr ⟨_, _, rfl, (isZ (m := 2) rfl)⟩) (.inl ⟨rfl, rfl⟩) (p := [u8 47, u8 32]) (m := [u8 72, u8 84, u8 84, u8 80, u8 47, u8 (a), u8 46, u8 (b)]) (q := ([] : List UInt8)) rfl rfl rfl (denX rfl)) ?_
  refine hcons (kLenE (isX rfl) (denZ (m := 3) rfl) rfl) ?_
  refine hcons (kIdxE (i := 0) (isX rfl) (isZ (m := 0) rfl) (denZ (m := 71) rfl) rfl (by simp) (bt_at rfl (by omega) (by omega))) ?_
  refine hcons (kIdxE (i := 1) (isX rfl) (isZ (m := 1) rfl) (denZ (m := 69) rfl) rfl (by simp) (bt_at rfl (by omega) (by omega))) ?_
  refine hcons (kIdxE (i := 2) (isX rfl) (isZ (m := 2) rfl) (denZ (m := 84) rfl) rfl (by simp) (bt_at rfl (by omega) (by omega))) ?_
  refine hcons (kNeS (isX rfl) (isSx (l := ([] : List UInt8)) 0 0 rfl) (bnT (by first | exact nilT (by first | omega | (simp only [List.length_append, List.length_cons, List.length_nil, List.length_take, List.length_drop, List.length_replicate, Int.natCast_add] at *; omega)) | exact nilF (by first | omega | (simp only [List.length_append, List.length_cons, List.length_nil, List.length_take, List.length_drop, List.length_replicate, Int.natCast_add] at *; omega)) | exact nilT' (by first | omega | (simp only [List.length_append, List.length_cons, List.length_nil, List.length_take, List.length_drop, List.length_replicate, Int.natCast_add] at *; omega)) | exact nilF' (by first | omega | (simp only [List.length_append, List.length_cons, List.length_nil, List.length_take, List.length_drop, List.length_replicate, Int.natCast_add] at *; omega))))) ?_
  refine hcons (kEqS (isX rfl) (isSx (l := [u8 72, u8 84, u8 84, u8 80, u8 47, u8 49, u8 46, u8 48]) 8 3471766442030158920 rfl) (decide_eq_true (u8_cons (by omega) (u8_cons (by omega) (u8_cons (by omega) (u8_cons (by omega) (u8_cons (by omega) (u8_cons (by omega) (u8_cons (by omega) (u8_cons (by omega) rfl)))))))))) ?_
  refine hcons (kEqS (isX rfl) (isSx (l := [u8 42]) 1 42 rfl) (neAt 0 (bt_at rfl (by omega) (by omega)) (bt_at rfl (by omega) (by omega)) (by omega))) ?_
  refine hcons (kLenE (isX rfl) (denZ (m := 1) rfl) rfl) ?_
  refine hcons (kCut (isX rfl) (.inl ⟨rfl, rfl⟩) (.inr ⟨_, _, rfl, (isZ (m := 1) rfl)⟩) (p := ([] : List UInt8)) (m := [u8 47]) (q := ([] : List UInt8)) rfl rfl rfl (denX rfl)) ?_
  refine hcons (kEqS (isX rfl) (isSx (l := [u8 47]) 1 47 rfl) (decide_eq_true rfl)) ?_
  refine hcons (kIdxE (i := 0) (isX rfl) (isZ (m := 0) rfl) (denZ (m := 47) rfl) rfl (by simp) (bt_at rfl (by omega) (by omega))) ?_
  refine hcons (kLenE (isX rfl) (denZ (m := 8) rfl) rfl) ?_
  refine hcons (kIdxE (i := 7) (isX rfl) (isZ (m := 7) rfl) (denX rfl) rfl (by simp) (bt_at rfl (by omega) (by omega))) ?_
  refine hcons (kSub (isX rfl) (isZ (m := 48) rfl) (denX rfl) (by omega) (fU8 (by omega) (by omega))) ?_
  refine hcons (kConvF (isX rfl) tu3 (denX rfl) (fI64 (by omega) (by omega))) ?_
  refine hcons (kEqI (isX rfl) (isZ (m := 49) rfl) (decide_eq_true (by omega))) ?_
  refine hcons (kEqI (isX rfl) (isZ (m := 48) rfl) (decide_eq_true (by omega))) ?_
  refine hcons (kSub (isX rfl) (isZ (m := 48) rfl) (denX rfl) (by omega) (fU8 (by omega) (by omega))) ?_
  refine hcons (kConvF (isX rfl) tu3 (denX rfl) (fI64 (by omega) (by omega))) ?_
  refine hcons (kEqI (isX rfl) (isX rfl) (decide_eq_true (by omega))) ?_
  exact hnil
theorem path0 (a : Int) (b : Int) (b0 : 0 ≤ a) (b1 : a ≤ 255) (b2 : 0 ≤ b) (b3 : b ≤ 255) (h0 : ¬ (a = 32)) (h1 : ¬ (b = 32)) (h5 : a = 49) (h6 : b = 48) (w : World) (hl : laidE w) : Calls Tryd.prog 4 #[.int .u8 a, .int .u8 b] w fun e w' => e = .returned (.bool true) ∧ Go.AX.Below w.heap.size w w' := by
  obtain ⟨fi, hfi, hb⟩ : ∃ fi, tabk.fn.get 4 = some fi ∧ fi.body.isSome = true := ⟨_, rfl, by kernel_rfl⟩
  exact runP (tb := tab0) ((tabkOk (nuL (nu0 a b)) (one0 a b)).hyps (hyOk0 a b b0 b1 b2 b3 h0 h1 h5 h6)) rfl hfi hb (fun e => run0 e ) (args := [.int .u8 a, .int .u8 b]) (by simp only [RelL, Rel]; exact ⟨_, _, rfl, rfl, ⟨_, _, rfl, rfl, rfl⟩⟩) w hl
def hy1 : List (HK × AV) := [(.bin .eql (.x 0) (.i .u8 (.ofNat 32)), .b false),
  (.bin .eql (.x 1) (.i .u8 (.ofNat 32)), .b false),
  (.bytes [.x 0], .x 2),
  (.bin .add (.s 11 57198858440158818717680967) (.x 2), .x 3),
  (.bin .add (.x 3) (.s 1 46), .x 4),
  (.bytes [.x 1], .x 5),
  (.bin .add (.x 4) (.x 5), .x 6),
  (.ext 157 [.x 6, .i .u8 (.ofNat 32)], .i .i64 (.ofNat 2)),
  (.len (.x 6), .i .i64 (.ofNat 14)),
  (.bin .eql (.s 1 32) (.x 6), .b false),
  (.ext 183 [.x 6, .i .u8 (.ofNat 32)], .i .i64 (.ofNat 3)),
  (.sub (.x 6) none (some (.i .i64 (.ofNat 3))), .x 7),
  (.sub (.x 6) (some (.i .i64 (.ofNat 4))) none, .x 8),
  (.bin .eql (.s 1 32) (.x 8), .b false),
  (.ext 183 [.x 8, .i .u8 (.ofNat 32)], .i .i64 (.ofNat 1)),
  (.sub (.x 8) none (some (.i .i64 (.ofNat 1))), .x 9),
  (.sub (.x 8) (some (.i .i64 (.ofNat 2))) none, .x 10),
  (.len (.x 7), .i .i64 (.ofNat 3)),
  (.idx (.x 7) (.i .i64 (.ofNat 0)), .i .u8 (.ofNat 71)),
  (.idx (.x 7) (.i .i64 (.ofNat 1)), .i .u8 (.ofNat 69)),
  (.idx (.x 7) (.i .i64 (.ofNat 2)), .i .u8 (.ofNat 84)),
  (.bin .neq (.x 7) (.s 0 0), .b true),
  (.bin .eql (.x 10) (.s 8 3471766442030158920), .b false),
  (.bin .eql (.x 10) (.s 8 3543824036068086856), .b true),
  (.bin .eql (.x 9) (.s 1 42), .b false),
  (.len (.x 9), .i .i64 (.ofNat 1)),
  (.sub (.x 9) none (some (.i .i64 (.ofNat 1))), .x 11),
  (.bin .eql (.x 11) (.s 1 47), .b true),
  (.idx (.x 9) (.i .i64 (.ofNat 0)), .i .u8 (.ofNat 47)),
  (.len (.x 10), .i .i64 (.ofNat 8)),
  (.idx (.x 10) (.i .i64 (.ofNat 7)), .x 12),
  (.bin .sub (.x 12) (.i .u8 (.ofNat 48)), .x 13),
  (.conv 3 (.x 13), .x 14),
  (.bin .eql (.x 0) (.i .u8 (.ofNat 49)), .b true),
  (.bin .eql (.x 1) (.i .u8 (.ofNat 48)), .b false),
  (.bin .eql (.x 1) (.i .u8 (.ofNat 49)), .b true),
  (.bin .sub (.x 1) (.i .u8 (.ofNat 48)), .x 15),
  (.conv 3 (.x 15), .x 16),
  (.bin .eql (.x 14) (.x 16), .b true)]
noncomputable def tab1 : Tab := { tabk with hyp := hy1 }
theorem run1 (e : Nat) : okB (call tab1 9000 4 [.x 0, .x 1] ⟨H0 e , 7, 0, 0⟩) = true := by kernel_rfl
def nu1 (a : Int) (b : Int) : List Value := [.int .u8 (a),
  .int .u8 (b),
  St' ([u8 (a)]),
  St' ([u8 71, u8 69, u8 84, u8 32, u8 47, u8 32, u8 72, u8 84, u8 84, u8 80, u8 47, u8 (a)]),
  St' ([u8 71, u8 69, u8 84, u8 32, u8 47, u8 32, u8 72, u8 84, u8 84, u8 80, u8 47, u8 (a), u8 46]),
  St' ([u8 (b)]),
  St' ([u8 71, u8 69, u8 84, u8 32, u8 47, u8 32, u8 72, u8 84, u8 84, u8 80, u8 47, u8 (a), u8 46, u8 (b)]),
  St' ([u8 71, u8 69, u8 84]),
  St' ([u8 47, u8 32, u8 72, u8 84, u8 84, u8 80, u8 47, u8 (a), u8 46, u8 (b)]),
  St' ([u8 47]),
  St' ([u8 72, u8 84, u8 84, u8 80, u8 47, u8 (a), u8 46, u8 (b)]),
  St' ([u8 47]),
  .int .u8 (b),
  .int .u8 (b - 48),
  .int .i64 (b - 48),
  .int .u8 (b - 48),
  .int .i64 (b - 48)]
theorem one1 (a : Int) (b : Int) : ∀ j, (nuL (nu1 a b) j).oneCell' = true := nuL_one (l := nu1 a b) rfl
set_option maxHeartbeats 2000000 in
theorem hyOk1 (a : Int) (b : Int) (b0 : 0 ≤ a) (b1 : a ≤ 255) (b2 : 0 ≤ b) (b3 : b ≤ 255) (h0 : ¬ (a = 32)) (h1 : ¬ (b = 32)) (h5 : a = 49) (h6 : ¬ (b = 48)) (h8 : b = 49) : ∀ k r, (k, r) ∈ hy1 → HOk (cx (nuL (nu1 a b)) (one1 a b) 1 laidE laidE_stab) k r := by
  unfold hy1
  refine hcons (kEqI (isX rfl) (isZ (m := 32) rfl) (decide_eq_false (by omega))) ?_
  refine hcons (kEqI (isX rfl) (isZ (m := 32) rfl) (decide_eq_false (by omega))) ?_
  refine hcons (kBytesB (bs := [u8 (a)]) (.cons (isB8 (isX rfl) (by omega) (by omega)) .nil) (denX rfl)) ?_
  refine hcons (kCat (isSx (l := [u8 71, u8 69, u8 84, u8 32, u8 47, u8 32, u8 72, u8 84, u8 84, u8 80, u8 47]) 11 57198858440158818717680967 rfl) (isX rfl) (denX rfl) (by first | rfl | (simp only [List.append_assoc, List.cons_append, List.nil_append, List.append_nil]; done)) (by first | omega | (simp only [List.length_append, List.length_cons, List.length_nil, List.length_take, List.length_drop, List.length_replicate, Int.natCast_add] at *; omega))) ?_
  refine hcons (kCat (isX rfl) (isSx (l := [u8 46]) 1 46 rfl) (denX rfl) (by first | rfl | (simp only [List.append_assoc, List.cons_append, List.nil_append, List.append_nil]; done)) (by first | omega | (simp only [List.length_append, List.length_cons, List.length_nil, List.length_take, List.length_drop, List.length_replicate, Int.natCast_add] at *; omega))) ?_
  refine hcons (kBytesB (bs := [u8 (b)]) (.cons (isB8 (isX rfl) (by omega) (by omega)) .nil) (denX rfl)) ?_
  refine hcons (kCat (isX rfl) (isX rfl) (denX rfl) (by first | rfl | (simp only [List.append_assoc, List.cons_append, List.nil_append, List.append_nil]; done)) (by first | omega | (simp only [List.length_append, List.length_cons, List.length_nil, List.length_take, List.length_drop, List.length_replicate, Int.natCast_add] at *; omega))) ?_
  refine hcons (kExtC (n := 2) exF157 exA157 exB157 (isX rfl) (isZ (m := 32) rfl) (denI .i64 2) ((cnN (by omega) (cnN (by omega) (cnN (by omega) (cnE (m := 1) (n := 2) (by omega) (cnN (by omega) (cnE (m := 0) (n := 1) (by omega) (cnN (by omega) (cnN (by omega) (cnN (by omega) (cnN (by omega) (cnN (by omega) (cnN (by omega) (cnN (by omega) (cnN (by omega) cnZ)))))))) (by omega))) (by omega))))))) ?_
  refine hcons (kLenE (isX rfl) (denZ (m := 14) rfl) rfl) ?_
  refine hcons (kEqS (isSx (l := [u8 32]) 1 32 rfl) (isX rfl) (neLen (by first | omega | (simp only [List.length_append, List.length_cons, List.length_nil, List.length_take, List.length_drop, List.length_replicate, Int.natCast_add] at *; omega)))) ?_
  refine hcons (kExtI (n := 3) exF183 exA183 exB183 (isX rfl) (isZ (m := 32) rfl) (denI .i64 3) ((ixN (m := 2) (n := 3) (by omega) (ixN (m := 1) (n := 2) (by omega) (ixN (m := 0) (n := 1) (by omega) (ixE (by omega)) (by omega)) (by omega)) (by omega)))) ?_
  refine hcons (kCut (isX rfl) (.inl ⟨rfl, rfl⟩) (.inr ⟨_, _, rfl, (isZ (m := 3) rfl)⟩) (p := ([] : List UInt8)) (m := [u8 71, u8 69, u8 84]) (q := [u8 32, u8 47, u8 32, u8 72, u8 84, u8 84, u8 80, u8 47, u8 (a), u8 46, u8 (b)]) rfl rfl rfl (denX rfl)) ?_
  refine hcons (kCut (isX rfl) (.inr ⟨_, _, rfl, (isZ (m := 4) rfl)⟩) (.inl ⟨rfl, rfl⟩) (p := [u8 71, u8 69, u8 84, u8 32]) (m := [u8 47, u8 32, u8 72, u8 84, u8 84, u8 80, u8 47, u8 (a), u8 46, u8 (b)]) (q := ([] : List UInt8)) rfl rfl rfl (denX rfl)) ?_
  refine hcons (kEqS (isSx (l := [u8 32]) 1 32 rfl) (isX rfl) (neLen (by first | omega | (simp only [List.length_append, List.length_cons, List.length_nil, List.length_take, List.length_drop, List.length_replicate, Int.natCast_add] at *; omega)))) ?_
  refine hcons (kExtI (n := 1) exF183 exA183 exB183 (isX rfl) (isZ (m := 32) rfl) (denI .i64 1) ((ixN (m := 0) (n := 1) (by omega) (ixE (by omega)) (by omega)))) ?_
  refine hcons (kCut (isX rfl) (.inl ⟨rfl, rfl⟩) (.inr ⟨_, _, rfl, (isZ (m := 1) rfl)⟩) (p := ([] : List UInt8)) (m := [u8 47]) (q := [u8 32, u8 72, u8 84, u8 84, u8 80, u8 47, u8 (a), u8 46, u8 (b)]) rfl rfl rfl (denX rfl)) ?_
  refine hcons (kCut (isX rfl) (.inr ⟨_, _, rfl, (isZ (m := 2) rfl)⟩) (.inl ⟨rfl, rfl⟩) (p := [u8 47, u8 32]) (m := [u8 72, u8 84, u8 84, u8 80, u8 47, u8 (a), u8 46, u8 (b)]) (q := ([] : List UInt8)) rfl rfl rfl (denX rfl)) ?_
  refine hcons (kLenE (isX rfl) (denZ (m := 3) rfl) rfl) ?_
  refine hcons (kIdxE (i := 0) (isX rfl) (isZ (m := 0) rfl) (denZ (m := 71) rfl) rfl (by simp) (bt_at rfl (by omega) (by omega))) ?_
  refine hcons (kIdxE (i := 1) (isX rfl) (isZ (m := 1) rfl) (denZ (m := 69) rfl) rfl (by simp) (bt_at rfl (by omega) (by omega))) ?_
  refine hcons (kIdxE (i := 2) (isX rfl) (isZ (m := 2) rfl) (denZ (m := 84) rfl) rfl (by simp) (bt_at rfl (by omega) (by omega))) ?_
  refine hcons (kNeS (isX rfl) (isSx (l := ([] : List UInt8)) 0 0 rfl) (bnT (by first | exact nilT (by first | omega | (simp only [List.length_append, List.length_cons, List.length_nil, List.length_take, List.length_drop, List.length_replicate, Int.natCast_add] at *; omega)) | exact nilF (by first | omega | (simp only [List.length_append, List.length_cons, List.length_nil, List.length_take, List.length_drop, List.length_replicate, Int.natCast_add] at *; omega)) | exact nilT' (by first | omega | (simp only [List.length_append, List.length_cons, List.length_nil, List.length_take, List.length_drop, List.length_replicate, Int.natCast_add] at *; omega)) | exact nilF' (by first | omega | (simp only [List.length_append, List.length_cons, List.length_nil, List.length_take, List.length_drop, List.length_replicate, Int.natCast_add] at *; omega))))) ?_
  refine hcons (kEqS (isX rfl) (isSx (l := [u8 72, u8 84, u8 84, u8 80, u8 47, u8 49, u8 46, u8 48]) 8 3471766442030158920 rfl) (neAt 7 (p := b) (q := 48) (bt_at rfl (by omega) (by omega)) (bt_at rfl (by omega) (by omega)) (by omega))) ?_
  refine hcons (kEqS (isX rfl) (isSx (l := [u8 72, u8 84, u8 84, u8 80, u8 47, u8 49, u8 46, u8 49]) 8 3543824036068086856 rfl) (decide_eq_true (u8_cons (by omega) (u8_cons (by omega) (u8_cons (by omega) (u8_cons (by omega) (u8_cons (by omega) (u8_cons (by omega) (u8_cons (by omega) (u8_cons (by omega) rfl)))))))))) ?_
  refine hcons (kEqS (isX rfl) (isSx (l := [u8 42]) 1 42 rfl) (neAt 0 (bt_at rfl (by omega) (by omega)) (bt_at rfl (by omega) (by omega)) (by omega))) ?_
  refine hcons (kLenE (isX rfl) (denZ (m := 1) rfl) rfl) ?_
  refine hcons (kCut (isX rfl) (.inl ⟨rfl, rfl⟩) (.inr ⟨_, _, rfl, (isZ (m := 1) rfl)⟩) (p := ([] : List UInt8)) (m := [u8 47]) (q := ([] : List UInt8)) rfl rfl rfl (denX rfl)) ?_
  refine hcons (kEqS (isX rfl) (isSx (l := [u8 47]) 1 47 rfl) (decide_eq_true rfl)) ?_
  refine hcons (kIdxE (i := 0) (isX rfl) (isZ (m := 0) rfl) (denZ (m := 47) rfl) rfl (by simp) (bt_at rfl (by omega) (by omega))) ?_
  refine hcons (kLenE (isX rfl) (denZ (m := 8) rfl) rfl) ?_
  refine hcons (kIdxE (i := 7) (isX rfl) (isZ (m := 7) rfl) (denX rfl) rfl (by simp) (bt_at rfl (by omega) (by omega))) ?_
  refine hcons (kSub (isX rfl) (isZ (m := 48) rfl) (denX rfl) (by omega) (fU8 (by omega) (by omega))) ?_
  refine hcons (kConvF (isX rfl) tu3 (denX rfl) (fI64 (by omega) (by omega))) ?_
  refine hcons (kEqI (isX rfl) (isZ (m := 49) rfl) (decide_eq_true (by omega))) ?_
  refine hcons (kEqI (isX rfl) (isZ (m := 48) rfl) (decide_eq_false (by omega))) ?_
  refine hcons (kEqI (isX rfl) (isZ (m := 49) rfl) (decide_eq_true (by omega))) ?_
  refine hcons (kSub (isX rfl) (isZ (m := 48) rfl) (denX rfl) (by omega) (fU8 (by omega) (by omega))) ?_
  refine hcons (kConvF (isX rfl) tu3 (denX rfl) (fI64 (by omega) (by omega))) ?_
  refine hcons (kEqI (isX rfl) (isX rfl) (decide_eq_true (by omega))) ?_
  exact hnil
theorem path1 (a : Int) (b : Int) (b0 : 0 ≤ a) (b1 : a ≤ 255) (b2 : 0 ≤ b) (b3 : b ≤ 255) (h0 : ¬ (a = 32)) (h1 : ¬ (b = 32)) (h5 : a = 49) (h6 : ¬ (b = 48)) (h8 : b = 49) (w : World) (hl : laidE w) : Calls Tryd.prog 4 #[.int .u8 a, .int .u8 b] w fun e w' => e = .returned (.bool true) ∧ Go.AX.Below w.heap.size w w' := by
  obtain ⟨fi, hfi, hb⟩ : ∃ fi, tabk.fn.get 4 = some fi ∧ fi.body.isSome = true := ⟨_, rfl, by kernel_rfl⟩
  exact runP (tb := tab1) ((tabkOk (nuL (nu1 a b)) (one1 a b)).hyps (hyOk1 a b b0 b1 b2 b3 h0 h1 h5 h6 h8)) rfl hfi hb (fun e => run1 e ) (args := [.int .u8 a, .int .u8 b]) (by simp only [RelL, Rel]; exact ⟨_, _, rfl, rfl, ⟨_, _, rfl, rfl, rfl⟩⟩) w hl
def hy2 : List (HK × AV) := [(.bin .eql (.x 0) (.i .u8 (.ofNat 32)), .b false),
  (.bin .eql (.x 1) (.i .u8 (.ofNat 32)), .b false),
  (.bytes [.x 0], .x 2),
  (.bin .add (.s 11 57198858440158818717680967) (.x 2), .x 3),
  (.bin .add (.x 3) (.s 1 46), .x 4),
  (.bytes [.x 1], .x 5),
  (.bin .add (.x 4) (.x 5), .x 6),
  (.ext 157 [.x 6, .i .u8 (.ofNat 32)], .i .i64 (.ofNat 2)),
  (.len (.x 6), .i .i64 (.ofNat 14)),
  (.bin .eql (.s 1 32) (.x 6), .b false),
  (.ext 183 [.x 6, .i .u8 (.ofNat 32)], .i .i64 (.ofNat 3)),
  (.sub (.x 6) none (some (.i .i64 (.ofNat 3))), .x 7),
  (.sub (.x 6) (some (.i .i64 (.ofNat 4))) none, .x 8),
  (.bin .eql (.s 1 32) (.x 8), .b false),
  (.ext 183 [.x 8, .i .u8 (.ofNat 32)], .i .i64 (.ofNat 1)),
  (.sub (.x 8) none (some (.i .i64 (.ofNat 1))), .x 9),
  (.sub (.x 8) (some (.i .i64 (.ofNat 2))) none, .x 10),
  (.len (.x 7), .i .i64 (.ofNat 3)),
  (.idx (.x 7) (.i .i64 (.ofNat 0)), .i .u8 (.ofNat 71)),
  (.idx (.x 7) (.i .i64 (.ofNat 1)), .i .u8 (.ofNat 69)),
  (.idx (.x 7) (.i .i64 (.ofNat 2)), .i .u8 (.ofNat 84)),
  (.bin .neq (.x 7) (.s 0 0), .b true),
  (.bin .eql (.x 10) (.s 8 3471766442030158920), .b false),
  (.bin .eql (.x 10) (.s 8 3543824036068086856), .b false),
  (.len (.x 10), .i .i64 (.ofNat 8)),
  (.sub (.x 10) none (some (.i .i64 (.ofNat 5))), .x 11),
  (.bin .eql (.x 11) (.s 5 203211166792), .b true),
  (.bin .eql (.x 9) (.s 1 42), .b false),
  (.len (.x 9), .i .i64 (.ofNat 1)),
  (.sub (.x 9) none (some (.i .i64 (.ofNat 1))), .x 12),
  (.bin .eql (.x 12) (.s 1 47), .b true),
  (.idx (.x 9) (.i .i64 (.ofNat 0)), .i .u8 (.ofNat 47)),
  (.bin .eql (.x 0) (.i .u8 (.ofNat 49)), .b true),
  (.bin .eql (.x 1) (.i .u8 (.ofNat 48)), .b false),
  (.bin .eql (.x 1) (.i .u8 (.ofNat 49)), .b false)]
noncomputable def tab2 : Tab := { tabk with hyp := hy2 }
theorem run2 (e : Nat) : okB (call tab2 9000 4 [.x 0, .x 1] ⟨H0 e , 7, 0, 0⟩) = true := by kernel_rfl
def nu2 (a : Int) (b : Int) : List Value := [.int .u8 (a),
  .int .u8 (b),
  St' ([u8 (a)]),
  St' ([u8 71, u8 69, u8 84, u8 32, u8 47, u8 32, u8 72, u8 84, u8 84, u8 80, u8 47, u8 (a)]),
  St' ([u8 71, u8 69, u8 84, u8 32, u8 47, u8 32, u8 72, u8 84, u8 84, u8 80, u8 47, u8 (a), u8 46]),
  St' ([u8 (b)]),
  St' ([u8 71, u8 69, u8 84, u8 32, u8 47, u8 32, u8 72, u8 84, u8 84, u8 80, u8 47, u8 (a), u8 46, u8 (b)]),
  St' ([u8 71, u8 69, u8 84]),
  St' ([u8 47, u8 32, u8 72, u8 84, u8 84, u8 80, u8 47, u8 (a), u8 46, u8 (b)]),
  St' ([u8 47]),
  St' ([u8 72, u8 84, u8 84, u8 80, u8 47, u8 (a), u8 46, u8 (b)]),
  St' ([u8 72, u8 84, u8 84, u8 80, u8 47]),
  St' ([u8 47])]
theorem one2 (a : Int) (b : Int) : ∀ j, (nuL (nu2 a b) j).oneCell' = true := nuL_one (l := nu2 a b) rfl
set_option maxHeartbeats 2000000 in
theorem hyOk2 (a : Int) (b : Int) (b0 : 0 ≤ a) (b1 : a ≤ 255) (b2 : 0 ≤ b) (b3 : b ≤ 255) (h0 : ¬ (a = 32)) (h1 : ¬ (b = 32)) (h5 : a = 49) (h6 : ¬ (b = 48)) (h8 : ¬ (b = 49)) : ∀ k r, (k, r) ∈ hy2 → HOk (cx (nuL (nu2 a b)) (one2 a b) 1 laidE laidE_stab) k r := by
  unfold hy2
  refine hcons (kEqI (isX rfl) (isZ (m := 32) rfl) (decide_eq_false (by omega))) ?_
  refine hcons (kEqI (isX rfl) (isZ (m := 32) rfl) (decide_eq_false (by omega))) ?_
  refine hcons (kBytesB (bs := [u8 (a)]) (.cons (isB8 (isX rfl) (by omega) (by omega)) .nil) (denX rfl)) ?_
  refine hcons (kCat (isSx (l := [u8 71, u8 69, u8 84, u8 32, u8 47, u8 32, u8 72, u8 84, u8 84, u8 80, u8 47]) 11 57198858440158818717680967 rfl) (isX rfl) (denX rfl) (by first | rfl | (simp only [List.append_assoc, List.cons_append, List.nil_append, List.append_nil]; done)) (by first | omega | (simp only [List.length_append, List.length_cons, List.length_nil, List.length_take, List.length_drop, List.length_replicate, Int.natCast_add] at *; omega))) ?_
  refine hcons (kCat (isX rfl) (isSx (l := [u8 46]) 1 46 rfl) (denX rfl) (by first | rfl | (simp only [List.append_assoc, List.cons_append, List.nil_append, List.append_nil]; done)) (by first | omega | (simp only [List.length_append, List.length_cons, List.length_nil, List.length_take, List.length_drop, List.length_replicate, Int.natCast_add] at *; omega))) ?_
  refine hcons (kBytesB (bs := [u8 (b)]) (.cons (isB8 (isX rfl) (by omega) (by omega)) .nil) (denX rfl)) ?_
  refine hcons (kCat (isX rfl) (isX rfl) (denX rfl) (by first | rfl | (simp only [List.append_assoc, List.cons_append, List.nil_append, List.append_nil]; done)) (by first | omega | (simp only [List.length_append, List.length_cons, List.length_nil, List.length_take, List.length_drop, List.length_replicate, Int.natCast_add] at *; omega))) ?_
  refine hcons (kExtC (n := 2) exF157 exA157 exB157 (isX rfl) (isZ (m := 32) rfl) (denI .i64 2) ((cnN (by omega) (cnN (by omega) (cnN (by omega) (cnE (m := 1) (n := 2) (by omega) (cnN (by omega) (cnE (m := 0) (n := 1) (by omega) (cnN (by omega) (cnN (by omega) (cnN (by omega) (cnN (by omega) (cnN (by omega) (cnN (by omega) (cnN (by omega) (cnN (by omega) cnZ)))))))) (by omega))) (by omega))))))) ?_
  refine hcons (kLenE (isX rfl) (denZ (m := 14) rfl) rfl) ?_
  refine hcons (kEqS (isSx (l := [u8 32]) 1 32 rfl) (isX rfl) (neLen (by first | omega | (simp only [List.length_append, List.length_cons, List.length_nil, List.length_take, List.length_drop, List.length_replicate, Int.natCast_add] at *; omega)))) ?_
  refine hcons (kExtI (n := 3) exF183 exA183 exB183 (isX rfl) (isZ (m := 32) rfl) (denI .i64 3) ((ixN (m := 2) (n := 3) (by omega) (ixN (m := 1) (n := 2) (by omega) (ixN (m := 0) (n := 1) (by omega) (ixE (by omega)) (by omega)) (by omega)) (by omega)))) ?_
  refine hcons (kCut (isX rfl) (.inl ⟨rfl, rfl⟩) (.inr ⟨_, _, rfl, (isZ (m := 3) rfl)⟩) (p := ([] : List UInt8)) (m := [u8 71, u8 69, u8 84]) (q := [u8 32, u8 47, u8 32, u8 72, u8 84, u8 84, u8 80, u8 47, u8 (a), u8 46, u8 (b)]) rfl rfl rfl (denX rfl)) ?_
  refine hcons (kCut (isX rfl) (.inr ⟨_, _, rfl, (isZ (m := 4) rfl)⟩) (.inl ⟨rfl, rfl⟩) (p := [u8 71, u8 69, u8 84, u8 32]) (m := [u8 47, u8 32, u8 72, u8 84, u8 84, u8 80, u8 47, u8 (a), u8 46, u8 (b)]) (q := ([] : List UInt8)) rfl rfl rfl (denX rfl)) ?_
  refine hcons (kEqS (isSx (l := [u8 32]) 1 32 rfl) (isX rfl) (neLen (by first | omega | (simp only [List.length_append, List.length_cons, List.length_nil, List.length_take, List.length_drop, List.length_replicate, Int.natCast_add] at *; omega)))) ?_
  refine hcons (kExtI (n := 1) exF183 exA183 exB183 (isX rfl) (isZ (m := 32) rfl) (denI .i64 1) ((ixN (m := 0) (n := 1) (by omega) (ixE (by omega)) (by omega)))) ?_
  refine hcons (kCut (isX rfl) (.inl ⟨rfl, rfl⟩) (.inr ⟨_, _, rfl, (isZ (m := 1) rfl)⟩) (p := ([] : List UInt8)) (m := [u8 47]) (q := [u8 32, u8 72, u8 84, u8 84, u8 80, u8 47, u8 (a), u8 46, u8 (b)]) rfl rfl rfl (denX rfl)) ?_
  refine hcons (kCut (isX rfl) (.inr ⟨_, _, rfl, (isZ (m := 2) rfl)⟩) (.inl ⟨rfl, rfl⟩) (p := [u8 47, u8 32]) (m := [u8 72, u8 84, u8 84, u8 80, u8 47, u8 (a), u8 46, u8 (b)]) (q := ([] : List UInt8)) rfl rfl rfl (denX rfl)) ?_
  refine hcons (kLenE (isX rfl) (denZ (m := 3) rfl) rfl) ?_
  refine hcons (kIdxE (i := 0) (isX rfl) (isZ (m := 0) rfl) (denZ (m := 71) rfl) rfl (by simp) (bt_at rfl (by omega) (by omega))) ?_
  refine hcons (kIdxE (i := 1) (isX rfl) (isZ (m := 1) rfl) (denZ (m := 69) rfl) rfl (by simp) (bt_at rfl (by omega) (by omega))) ?_
  refine hcons (kIdxE (i := 2) (isX rfl) (isZ (m := 2) rfl) (denZ (m := 84) rfl) rfl (by simp) (bt_at rfl (by omega) (by omega))) ?_
  refine hcons (kNeS (isX rfl) (isSx (l := ([] : List UInt8)) 0 0 rfl) (bnT (by first | exact nilT (by first | omega | (simp only [List.length_append, List.length_cons, List.length_nil, List.length_take, List.length_drop, List.length_replicate, Int.natCast_add] at *; omega)) | exact nilF (by first | omega | (simp only [List.length_append, List.length_cons, List.length_nil, List.length_take, List.length_drop, List.length_replicate, Int.natCast_add] at *; omega)) | exact nilT' (by first | omega | (simp only [List.length_append, List.length_cons, List.length_nil, List.length_take, List.length_drop, List.length_replicate, Int.natCast_add] at *; omega)) | exact nilF' (by first | omega | (simp only [List.length_append, List.length_cons, List.length_nil, List.length_take, List.length_drop, List.length_replicate, Int.natCast_add] at *; omega))))) ?_
  refine hcons (kEqS (isX rfl) (isSx (l := [u8 72, u8 84, u8 84, u8 80, u8 47, u8 49, u8 46, u8 48]) 8 3471766442030158920 rfl) (neAt 7 (p := b) (q := 48) (bt_at rfl (by omega) (by omega)) (bt_at rfl (by omega) (by omega)) (by omega))) ?_
  refine hcons (kEqS (isX rfl) (isSx (l := [u8 72, u8 84, u8 84, u8 80, u8 47, u8 49, u8 46, u8 49]) 8 3543824036068086856 rfl) (neAt 7 (p := b) (q := 49) (bt_at rfl (by omega) (by omega)) (bt_at rfl (by omega) (by omega)) (by omega))) ?_
  refine hcons (kLenE (isX rfl) (denZ (m := 8) rfl) rfl) ?_
  refine hcons (kCut (isX rfl) (.inl ⟨rfl, rfl⟩) (.inr ⟨_, _, rfl, (isZ (m := 5) rfl)⟩) (p := ([] : List UInt8)) (m := [u8 72, u8 84, u8 84, u8 80, u8 47]) (q := [u8 (a), u8 46, u8 (b)]) rfl rfl rfl (denX rfl)) ?_
  refine hcons (kEqS (isX rfl) (isSx (l := [u8 72, u8 84, u8 84, u8 80, u8 47]) 5 203211166792 rfl) (decide_eq_true rfl)) ?_
  refine hcons (kEqS (isX rfl) (isSx (l := [u8 42]) 1 42 rfl) (neAt 0 (bt_at rfl (by omega) (by omega)) (bt_at rfl (by omega) (by omega)) (by omega))) ?_
  refine hcons (kLenE (isX rfl) (denZ (m := 1) rfl) rfl) ?_
  refine hcons (kCut (isX rfl) (.inl ⟨rfl, rfl⟩) (.inr ⟨_, _, rfl, (isZ (m := 1) rfl)⟩) (p := ([] : List UInt8)) (m := [u8 47]) (q := ([] : List UInt8)) rfl rfl rfl (denX rfl)) ?_
  refine hcons (kEqS (isX rfl) (isSx (l := [u8 47]) 1 47 rfl) (decide_eq_true rfl)) ?_
  refine hcons (kIdxE (i := 0) (isX rfl) (isZ (m := 0) rfl) (denZ (m := 47) rfl) rfl (by simp) (bt_at rfl (by omega) (by omega))) ?_
  refine hcons (kEqI (isX rfl) (isZ (m := 49) rfl) (decide_eq_true (by omega))) ?_
  refine hcons (kEqI (isX rfl) (isZ (m := 48) rfl) (decide_eq_false (by omega))) ?_
  refine hcons (kEqI (isX rfl) (isZ (m := 49) rfl) (decide_eq_false (by omega))) ?_
  exact hnil
theorem path2 (a : Int) (b : Int) (b0 : 0 ≤ a) (b1 : a ≤ 255) (b2 : 0 ≤ b) (b3 : b ≤ 255) (h0 : ¬ (a = 32)) (h1 : ¬ (b = 32)) (h5 : a = 49) (h6 : ¬ (b = 48)) (h8 : ¬ (b = 49)) (w : World) (hl : laidE w) : Calls Tryd.prog 4 #[.int .u8 a, .int .u8 b] w fun e w' => e = .returned (.bool true) ∧ Go.AX.Below w.heap.size w w' := by
  obtain ⟨fi, hfi, hb⟩ : ∃ fi, tabk.fn.get 4 = some fi ∧ fi.body.isSome = true := ⟨_, rfl, by kernel_rfl⟩
  exact runP (tb := tab2) ((tabkOk (nuL (nu2 a b)) (one2 a b)).hyps (hyOk2 a b b0 b1 b2 b3 h0 h1 h5 h6 h8)) rfl hfi hb (fun e => run2 e ) (args := [.int .u8 a, .int .u8 b]) (by simp only [RelL, Rel]; exact ⟨_, _, rfl, rfl, ⟨_, _, rfl, rfl, rfl⟩⟩) w hl
def hy3 : List (HK × AV) := [(.bin .eql (.x 0) (.i .u8 (.ofNat 32)), .b false),
  (.bin .eql (.x 1) (.i .u8 (.ofNat 32)), .b false),
  (.bytes [.x 0], .x 2),
  (.bin .add (.s 11 57198858440158818717680967) (.x 2), .x 3),
  (.bin .add (.x 3) (.s 1 46), .x 4),
  (.bytes [.x 1], .x 5),
  (.bin .add (.x 4) (.x 5), .x 6),
  (.ext 157 [.x 6, .i .u8 (.ofNat 32)], .i .i64 (.ofNat 2)),
  (.len (.x 6), .i .i64 (.ofNat 14)),
  (.bin .eql (.s 1 32) (.x 6), .b false),
  (.ext 183 [.x 6, .i .u8 (.ofNat 32)], .i .i64 (.ofNat 3)),
  (.sub (.x 6) none (some (.i .i64 (.ofNat 3))), .x 7),
  (.sub (.x 6) (some (.i .i64 (.ofNat 4))) none, .x 8),
  (.bin .eql (.s 1 32) (.x 8), .b false),
  (.ext 183 [.x 8, .i .u8 (.ofNat 32)], .i .i64 (.ofNat 1)),
  (.sub (.x 8) none (some (.i .i64 (.ofNat 1))), .x 9),
  (.sub (.x 8) (some (.i .i64 (.ofNat 2))) none, .x 10),
  (.len (.x 7), .i .i64 (.ofNat 3)),
  (.idx (.x 7) (.i .i64 (.ofNat 0)), .i .u8 (.ofNat 71)),
  (.idx (.x 7) (.i .i64 (.ofNat 1)), .i .u8 (.ofNat 69)),
  (.idx (.x 7) (.i .i64 (.ofNat 2)), .i .u8 (.ofNat 84)),
  (.bin .neq (.x 7) (.s 0 0), .b true),
  (.bin .eql (.x 10) (.s 8 3471766442030158920), .b false),
  (.bin .eql (.x 10) (.s 8 3543824036068086856), .b false),
  (.len (.x 10), .i .i64 (.ofNat 8)),
  (.sub (.x 10) none (some (.i .i64 (.ofNat 5))), .x 11),
  (.bin .eql (.x 11) (.s 5 203211166792), .b true),
  (.bin .eql (.x 9) (.s 1 42), .b false),
  (.len (.x 9), .i .i64 (.ofNat 1)),
  (.sub (.x 9) none (some (.i .i64 (.ofNat 1))), .x 12),
  (.bin .eql (.x 12) (.s 1 47), .b true),
  (.idx (.x 9) (.i .i64 (.ofNat 0)), .i .u8 (.ofNat 47)),
  (.bin .eql (.x 0) (.i .u8 (.ofNat 49)), .b false)]
noncomputable def tab3 : Tab := { tabk with hyp := hy3 }
theorem run3 (e : Nat) : okB (call tab3 9000 4 [.x 0, .x 1] ⟨H0 e , 7, 0, 0⟩) = true := by kernel_rfl
def nu3 (a : Int) (b : Int) : List Value := [.int .u8 (a),
  .int .u8 (b),
  St' ([u8 (a)]),
  St' ([u8 71, u8 69, u8 84, u8 32, u8 47, u8 32, u8 72, u8 84, u8 84, u8 80, u8 47, u8 (a)]),
  St' ([u8 71, u8 69, u8 84, u8 32, u8 47, u8 32, u8 72, u8 84, u8 84, u8 80, u8 47, u8 (a), u8 46]),
  St' ([u8 (b)]),
  St' ([u8 71, u8 69, u8 84, u8 32, u8 47, u8 32, u8 72, u8 84, u8 84, u8 80, u8 47, u8 (a), u8 46, u8 (b)]),
  St' ([u8 71, u8 69, u8 84]),
  St' ([u8 47, u8 32, u8 72, u8 84, u8 84, u8 80, u8 47, u8 (a), u8 46, u8 (b)]),
  St' ([u8 47]),
  St' ([u8 72, u8 84, u8 84, u8 80, u8 47, u8 (a), u8 46, u8 (b)]),
  St' ([u8 72, u8 84, u8 84, u8 80, u8 47]),
  St' ([u8 47])]
theorem one3 (a : Int) (b : Int) : ∀ j, (nuL (nu3 a b) j).oneCell' = true := nuL_one (l := nu3 a b) rfl
set_option maxHeartbeats 2000000 in
theorem hyOk3 (a : Int) (b : Int) (b0 : 0 ≤ a) (b1 : a ≤ 255) (b2 : 0 ≤ b) (b3 : b ≤ 255) (h0 : ¬ (a = 32)) (h1 : ¬ (b = 32)) (h5 : ¬ (a = 49)) : ∀ k r, (k, r) ∈ hy3 → HOk (cx (nuL (nu3 a b)) (one3 a b) 1 laidE laidE_stab) k r := by
  unfold hy3
  refine hcons (kEqI (isX rfl) (isZ (m := 32) rfl) (decide_eq_false (by omega))) ?_
  refine hcons (kEqI (isX rfl) (isZ (m := 32) rfl) (decide_eq_false (by omega))) ?_
  refine hcons (kBytesB (bs := [u8 (a)]) (.cons (isB8 (isX rfl) (by omega) (by omega)) .nil) (denX rfl)) ?_
  refine hcons (kCat (isSx (l := [u8 71, u8 69, u8 84, u8 32, u8 47, u8 32, u8 72, u8 84, u8 84, u8 80, u8 47]) 11 57198858440158818717680967 rfl) (isX rfl) (denX rfl) (by first | rfl | (simp only [List.append_assoc, List.cons_append, List.nil_append, List.append_nil]; done)) (by first | omega | (simp only [List.length_append, List.length_cons, List.length_nil, List.length_take, List.length_drop, List.length_replicate, Int.natCast_add] at *; omega))) ?_
  refine hcons (kCat (isX rfl) (isSx (l := [u8 46]) 1 46 rfl) (denX rfl) (by first | rfl | (simp only [List.append_assoc, List.cons_append, List.nil_append, List.append_nil]; done)) (by first | omega | (simp only [List.length_append, List.length_cons, List.length_nil, List.length_take, List.length_drop, List.length_replicate, Int.natCast_add] at *; omega))) ?_
  refine hcons (kBytesB (bs := [u8 (b)]) (.cons (isB8 (isX rfl) (by omega) (by omega)) .nil) (denX rfl)) ?_
  refine hcons (kCat (isX rfl) (isX rfl) (denX rfl) (by first | rfl | (simp only [List.append_assoc, List.cons_append, List.nil_append, List.append_nil]; done)) (by first | omega | (simp only [List.length_append, List.length_cons, List.length_nil, List.length_take, List.length_drop, List.length_replicate, Int.natCast_add] at *; omega))) ?_
  refine hcons (kExtC (n := 2) exF157 exA157 exB157 (isX rfl) (isZ (m := 32) rfl) (denI .i64 2) ((cnN (by omega) (cnN (by omega) (cnN (by omega) (cnE (m := 1) (n := 2) (by omega) (cnN (by omega) (cnE (m := 0) (n := 1) (by omega) (cnN (by omega) (cnN (by omega) (cnN (by omega) (cnN (by omega) (cnN (by omega) (cnN (by omega) (cnN (by omega) (cnN (by omega) cnZ)))))))) (by omega))) (by omega))))))) ?_
  refine hcons (kLenE (isX rfl) (denZ (m := 14) rfl) rfl) ?_
  refine hcons (kEqS (isSx (l := [u8 32]) 1 32 rfl) (isX rfl) (neLen (by first | omega | (simp only [List.length_append, List.length_cons, List.length_nil, List.length_take, List.length_drop, List.length_replicate, Int.natCast_add] at *; omega)))) ?_
  refine hcons (kExtI (n := 3) exF183 exA183 exB183 (isX rfl) (isZ (m := 32) rfl) (denI .i64 3) ((ixN (m := 2) (n := 3) (by omega) (ixN (m := 1) (n := 2) (by omega) (ixN (m := 0) (n := 1) (by omega) (ixE (by omega)) (by omega)) (by omega)) (by omega)))) ?_
  refine hcons (kCut (isX rfl) (.inl ⟨rfl, rfl⟩) (.inr ⟨_, _, rfl, (isZ (m := 3) rfl)⟩) (p := ([] : List UInt8)) (m := [u8 71, u8 69, u8 84]) (q := [u8 32, u8 47, u8 32, u8 72, u8 84, u8 84, u8 80, u8 47, u8 (a), u8 46, u8 (b)]) rfl rfl rfl (denX rfl)) ?_
  refine hcons (kCut (isX rfl) (.inr ⟨_, _, rfl, (isZ (m := 4) rfl)⟩) (.inl ⟨rfl, rfl⟩) (p := [u8 71, u8 69, u8 84, u8 32]) (m := [u8 47, u8 32, u8 72, u8 84, u8 84, u8 80, u8 47, u8 (a), u8 46, u8 (b)]) (q := ([] : List UInt8)) rfl rfl rfl (denX rfl)) ?_
  refine hcons (kEqS (isSx (l := [u8 32]) 1 32 rfl) (isX rfl) (neLen (by first | omega | (simp only [List.length_append, List.length_cons, List.length_nil, List.length_take, List.length_drop, List.length_replicate, Int.natCast_add] at *; omega)))) ?_
  refine hcons (kExtI (n := 1) exF183 exA183 exB183 (isX rfl) (isZ (m := 32) rfl) (denI .i64 1) ((ixN (m := 0) (n := 1) (by omega) (ixE (by omega)) (by omega)))) ?_
  refine hcons (kCut (isX rfl) (.inl ⟨rfl, rfl⟩) (.inr ⟨_, _, rfl, (isZ (m := 1) rfl)⟩) (p := ([] : List UInt8)) (m := [u8 47]) (q := [u8 32, u8 72, u8 84, u8 84, u8 80, u8 47, u8 (a), u8 46, u8 (b)]) rfl rfl rfl (denX rfl)) ?_
  refine hcons (kCut (isX rfl) (.inr ⟨_, _, rfl, (isZ (m := 2) rfl)⟩) (.inl ⟨rfl, rfl⟩) (p := [u8 47, u8 32]) (m := [u8 72, u8 84, u8 84, u8 80, u8 47, u8 (a), u8 46, u8 (b)]) (q := ([] : List UInt8)) rfl rfl rfl (denX rfl)) ?_
  refine hcons (kLenE (isX rfl) (denZ (m := 3) rfl) rfl) ?_
  refine hcons (kIdxE (i := 0) (isX rfl) (isZ (m := 0) rfl) (denZ (m := 71) rfl) rfl (by simp) (bt_at rfl (by omega) (by omega))) ?_
  refine hcons (kIdxE (i := 1) (isX rfl) (isZ (m := 1) rfl) (denZ (m := 69) rfl) rfl (by simp) (bt_at rfl (by omega) (by omega))) ?_
  refine hcons (kIdxE (i := 2) (isX rfl) (isZ (m := 2) rfl) (denZ (m := 84) rfl) rfl (by simp) (bt_at rfl (by omega) (by omega))) ?_
  refine hcons (kNeS (isX rfl) (isSx (l := ([] : List UInt8)) 0 0 rfl) (bnT (by first | exact nilT (by first | omega | (simp only [List.length_append, List.length_cons, List.length_nil, List.length_take, List.length_drop, List.length_replicate, Int.natCast_add] at *; omega)) | exact nilF (by first | omega | (simp only [List.length_append, List.length_cons, List.length_nil, List.length_take, List.length_drop, List.length_replicate, Int.natCast_add] at *; omega)) | exact nilT' (by first | omega | (simp only [List.length_append, List.length_cons, List.length_nil, List.length_take, List.length_drop, List.length_replicate, Int.natCast_add] at *; omega)) | exact nilF' (by first | omega | (simp only [List.length_append, List.length_cons, List.length_nil, List.length_take, List.length_drop, List.length_replicate, Int.natCast_add] at *; omega))))) ?_
  refine hcons (kEqS (isX rfl) (isSx (l := [u8 72, u8 84, u8 84, u8 80, u8 47, u8 49, u8 46, u8 48]) 8 3471766442030158920 rfl) (neAt 5 (p := a) (q := 49) (bt_at rfl (by omega) (by omega)) (bt_at rfl (by omega) (by omega)) (by omega))) ?_
  refine hcons (kEqS (isX rfl) (isSx (l := [u8 72, u8 84, u8 84, u8 80, u8 47, u8 49, u8 46, u8 49]) 8 3543824036068086856 rfl) (neAt 5 (p := a) (q := 49) (bt_at rfl (by omega) (by omega)) (bt_at rfl (by omega) (by omega)) (by omega))) ?_
  refine hcons (kLenE (isX rfl) (denZ (m := 8) rfl) rfl) ?_
  refine hcons (kCut (isX rfl) (.inl ⟨rfl, rfl⟩) (.inr ⟨_, _, rfl, (isZ (m := 5) rfl)⟩) (p := ([] : List UInt8)) (m := [u8 72, u8 84, u8 84, u8 80, u8 47]) (q := [u8 (a), u8 46, u8 (b)]) rfl rfl rfl (denX rfl)) ?_
  refine hcons (kEqS (isX rfl) (isSx (l := [u8 72, u8 84, u8 84, u8 80, u8 47]) 5 203211166792 rfl) (decide_eq_true rfl)) ?_
  refine hcons (kEqS (isX rfl) (isSx (l := [u8 42]) 1 42 rfl) (neAt 0 (bt_at rfl (by omega) (by omega)) (bt_at rfl (by omega) (by omega)) (by omega))) ?_
  refine hcons (kLenE (isX rfl) (denZ (m := 1) rfl) rfl) ?_
  refine hcons (kCut (isX rfl) (.inl ⟨rfl, rfl⟩) (.inr ⟨_, _, rfl, (isZ (m := 1) rfl)⟩) (p := ([] : List UInt8)) (m := [u8 47]) (q := ([] : List UInt8)) rfl rfl rfl (denX rfl)) ?_
  refine hcons (kEqS (isX rfl) (isSx (l := [u8 47]) 1 47 rfl) (decide_eq_true rfl)) ?_
  refine hcons (kIdxE (i := 0) (isX rfl) (isZ (m := 0) rfl) (denZ (m := 47) rfl) rfl (by simp) (bt_at rfl (by omega) (by omega))) ?_
  refine hcons (kEqI (isX rfl) (isZ (m := 49) rfl) (decide_eq_false (by omega))) ?_
  exact hnil
theorem path3 (a : Int) (b : Int) (b0 : 0 ≤ a) (b1 : a ≤ 255) (b2 : 0 ≤ b) (b3 : b ≤ 255) (h0 : ¬ (a = 32)) (h1 : ¬ (b = 32)) (h5 : ¬ (a = 49)) (w : World) (hl : laidE w) : Calls Tryd.prog 4 #[.int .u8 a, .int .u8 b] w fun e w' => e = .returned (.bool true) ∧ Go.AX.Below w.heap.size w w' := by
  obtain ⟨fi, hfi, hb⟩ : ∃ fi, tabk.fn.get 4 = some fi ∧ fi.body.isSome = true := ⟨_, rfl, by kernel_rfl⟩
  exact runP (tb := tab3) ((tabkOk (nuL (nu3 a b)) (one3 a b)).hyps (hyOk3 a b b0 b1 b2 b3 h0 h1 h5)) rfl hfi hb (fun e => run3 e ) (args := [.int .u8 a, .int .u8 b]) (by simp only [RelL, Rel]; exact ⟨_, _, rfl, rfl, ⟨_, _, rfl, rfl, rfl⟩⟩) w hl
def hy4 : List (HK × AV) := [(.bin .eql (.x 0) (.i .u8 (.ofNat 32)), .b true)]
noncomputable def tab4 : Tab := { tabk with hyp := hy4 }
theorem run4 (e : Nat) : okB (call tab4 9000 4 [.x 0, .x 1] ⟨H0 e , 7, 0, 0⟩) = true := by kernel_rfl
def nu4 (a : Int) (b : Int) : List Value := [.int .u8 (a),
  .int .u8 (b)]
theorem one4 (a : Int) (b : Int) : ∀ j, (nuL (nu4 a b) j).oneCell' = true := nuL_one (l := nu4 a b) rfl
set_option maxHeartbeats 2000000 in
theorem hyOk4 (a : Int) (b : Int) (b0 : 0 ≤ a) (b1 : a ≤ 255) (b2 : 0 ≤ b) (b3 : b ≤ 255) (h0 : a = 32) : ∀ k r, (k, r) ∈ hy4 → HOk (cx (nuL (nu4 a b)) (one4 a b) 1 laidE laidE_stab) k r := by
  unfold hy4
  refine hcons (kEqI (isX rfl) (isZ (m := 32) rfl) (decide_eq_true (by omega))) ?_
  exact hnil
theorem path4 (a : Int) (b : Int) (b0 : 0 ≤ a) (b1 : a ≤ 255) (b2 : 0 ≤ b) (b3 : b ≤ 255) (h0 : a = 32) (w : World) (hl : laidE w) : Calls Tryd.prog 4 #[.int .u8 a, .int .u8 b] w fun e w' => e = .returned (.bool true) ∧ Go.AX.Below w.heap.size w w' := by
  obtain ⟨fi, hfi, hb⟩ : ∃ fi, tabk.fn.get 4 = some fi ∧ fi.body.isSome = true := ⟨_, rfl, by kernel_rfl⟩
  exact runP (tb := tab4) ((tabkOk (nuL (nu4 a b)) (one4 a b)).hyps (hyOk4 a b b0 b1 b2 b3 h0)) rfl hfi hb (fun e => run4 e ) (args := [.int .u8 a, .int .u8 b]) (by simp only [RelL, Rel]; exact ⟨_, _, rfl, rfl, ⟨_, _, rfl, rfl, rfl⟩⟩) w hl
def hy5 : List (HK × AV) := [(.bin .eql (.x 0) (.i .u8 (.ofNat 32)), .b false),
  (.bin .eql (.x 1) (.i .u8 (.ofNat 32)), .b true)]
noncomputable def tab5 : Tab := { tabk with hyp := hy5 }
theorem run5 (e : Nat) : okB (call tab5 9000 4 [.x 0, .x 1] ⟨H0 e , 7, 0, 0⟩) = true := by kernel_rfl
def nu5 (a : Int) (b : Int) : List Value := [.int .u8 (a),
  .int .u8 (b)]
theorem one5 (a : Int) (b : Int) : ∀ j, (nuL (nu5 a b) j).oneCell' = true := nuL_one (l := nu5 a b) rfl
set_option maxHeartbeats 2000000 in
theorem hyOk5 (a : Int) (b : Int) (b0 : 0 ≤ a) (b1 : a ≤ 255) (b2 : 0 ≤ b) (b3 : b ≤ 255) (h0 : ¬ (a = 32)) (h1 : b = 32) : ∀ k r, (k, r) ∈ hy5 → HOk (cx (nuL (nu5 a b)) (one5 a b) 1 laidE laidE_stab) k r := by
  unfold hy5
  refine hcons (kEqI (isX rfl) (isZ (m := 32) rfl) (decide_eq_false (by omega))) ?_
  refine hcons (kEqI (isX rfl) (isZ (m := 32) rfl) (decide_eq_true (by omega))) ?_
  exact hnil
theorem path5 (a : Int) (b : Int) (b0 : 0 ≤ a) (b1 : a ≤ 255) (b2 : 0 ≤ b) (b3 : b ≤ 255) (h0 : ¬ (a = 32)) (h1 : b = 32) (w : World) (hl : laidE w) : Calls Tryd.prog 4 #[.int .u8 a, .int .u8 b] w fun e w' => e = .returned (.bool true) ∧ Go.AX.Below w.heap.size w w' := by
  obtain ⟨fi, hfi, hb⟩ : ∃ fi, tabk.fn.get 4 = some fi ∧ fi.body.isSome = true := ⟨_, rfl, by kernel_rfl⟩
  exact runP (tb := tab5) ((tabkOk (nuL (nu5 a b)) (one5 a b)).hyps (hyOk5 a b b0 b1 b2 b3 h0 h1)) rfl hfi hb (fun e => run5 e ) (args := [.int .u8 a, .int .u8 b]) (by simp only [RelL, Rel]; exact ⟨_, _, rfl, rfl, ⟨_, _, rfl, rfl, rfl⟩⟩) w hl
end Go.Proofs.YticlhkekkfelpaaDoor.startVersions
