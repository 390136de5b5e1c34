/- A part of the proof: an interpreter of the model's own code on partly known states, and that what it answers is what the program answers. No condition of its own. -/
import Derived.Test.YtkhcgoeccmkmdaaP1PoolNumbersO
set_option maxRecDepth 100000
set_option linter.unusedVariables false
set_option linter.unusedSimpArgs false
set_option maxHeartbeats 4000000
namespace Go.Proofs.Ytkhcgoeccmkmdaa.poolNumbers
open Go Go.AX Go.Proofs Go.Proofs.Ytkhcgoeccmkmdaa
def hy4 : LK := [(.rl (.x 2000000) 1, .x 0),
  (.bin .gtr (.x 0) (.i .i64 (.ofNat 30)), .b false),
  (.bin .add (.x 1) (.i .i64 (.ofNat 5)), .x 3),
  (.bin .eql (.x 2) (.x 3), .b false)]
def lh2 : LH := ⟨1, 3, 76, [(1, .r 2000000 5 1 true), (2, .b ⟨56, .l [.i .i64 (.ofNat 1), .i .i64 (.ofNat 2), .i .i64 (.ofNat 1), .i .i64 (.ofNat 0), .nils], 0, 0, 0, false, false⟩)], [(1, .r 2000001 5 1 true), (2, .b ⟨56, .l [.i .i64 (.ofNat 1), .i .i64 (.ofNat 2), .i .i64 (.ofNat 1), .x 1, .sl 3 0 1 0 true], 0, 0, 0, false, false⟩), (3, .b ⟨58, .l [.p 4 0], 1, 1, 0, false, true⟩), (4, .b ⟨61, .l [.x 2, .i .i64 (.ofNat 0), .p 5 0], 0, 0, 0, false, false⟩), (5, .b ⟨66, .l [.sl 6 0 1 1 false, .p 9 0, .s 0 0, .i .i64 (.ofNat 0), .nils, .b false], 0, 0, 0, false, false⟩), (6, .b ⟨67, .l [.p 7 0], 0, 0, 0, false, false⟩), (7, .b ⟨111, .l [.i .i64 (.ofNat 1), .sl 8 0 3 0 true, .b false, .b false, .b false, .b false, .b false, .i .u32 (.ofNat 0), .i .i64 (.ofNat 0)], 0, 0, 0, false, false⟩), (8, .b ⟨25, .l [.i .i64 (.ofNat 1), .i .i64 (.ofNat 1), .s 8 65792, .i .i64 (.ofNat 0), .i .i64 (.ofNat 4), .i .i64 (.ofNat 1), .s 0 0, .i .i64 (.ofNat 0), .i .i64 (.ofNat 5), .i .i64 (.ofNat 1), .s 0 0, .i .i64 (.ofNat 0)], 12, 4, 0, false, true⟩), (9, .b ⟨123, .l [.i .i64 (.ofNat 65535), .nils, .i .i64 (.ofNat 0), .b false], 0, 0, 0, false, false⟩)]⟩
def lf2 : LF := ⟨8, 97, [(0, .sr 1), (3, .p 2 0), (4, .i .i64 (.ofNat 0)), (5, .i .i64 (.ofNat 0))], [], (.exit 0), [(0, .sr 1), (3, .p 2 0), (4, .x 1)], some lh2⟩
noncomputable def tab4 : Tab := addLps ({ tabk with hyp := hy4 }) 5 fi5 [lf2]
theorem run4 : Go.AX.okB (call tab4 9000 5 [.sr 1] ⟨addR 1 [.r 2000000 5 1 true] (H0 ), 1 + List.length (α := Ent) [.r 2000000 5 1 true], 0, 0⟩) = true := by kernel_rfl
def nu4 (blk_l : Nat) (base_l : Nat) (es_l : Nat) (l : List Int) : List Value := [.int .i64 ((l.length : Int)),
  .int .i64 ((smu (0, 0, 0, 0) l).2.1),
  .int .i64 ((smu (0, 0, 0, 0) l).2.2.1),
  .int .i64 (((smu (0, 0, 0, 0) l).2.1) + 5)]
def ro4 (blk_l : Nat) (base_l : Nat) (es_l : Nat) (l : List Int) : List Value := [rwI .u8 l,
  rwI .u8 l]
theorem on4 (blk_l : Nat) (base_l : Nat) (es_l : Nat) (l : List Int) : ∀ j, (nuL (nu4 blk_l base_l es_l l) j).oneCell' = true := nuL_one (l := nu4 blk_l base_l es_l l) rfl
theorem path4 (blk_l : Nat) (base_l : Nat) (es_l : Nat) (l : List Int) (b0 : ∀ n, n ∈ l → 0 ≤ n ∧ n ≤ 255) (b1 : l.length ≤ 9223372036854775807) (h0 : ¬ (30 < (l.length : Int))) (h1 : ¬ ((smu (0, 0, 0, 0) l).1 = 0)) (h2 : (smu (0, 0, 0, 0) l).1 = 1) (w : World) (hl : laidE w) (w_l : InRow w 1 (l.map (Value.int .u8)) blk_l base_l l.length es_l) (g_l : (H0 ).get blk_l = none) : CwR 5 #[.slice (some ⟨blk_l, base_l, none⟩) l.length es_l] w (.bool true) := by
  have hrg := smu_rng l
  have ho : ∀ k r, (k, r) ∈ hy4 → HOk (cx (nuX (nu4 blk_l base_l es_l l) (rX (ro4 blk_l base_l es_l l) (fun _ => .bool true))) (nuX_one (on4 blk_l base_l es_l l)) 0 laidE laidE_stab) k r := by
    unfold hy4
    exact hc (kRlI (isX rfl) (denX rfl) (by first | omega | (simp <;> omega))) <|
     hc (gtcF rfl (by omega)) <|
     hc (adC rfl rfl (by omega)) <|
     hc (eqXF rfl rfl (by omega)) <|
     hnil
  exact runPR (tb := tab4) (AllOk.lp1 ((tabkOk (nuX (nu4 blk_l base_l es_l l) (rX (ro4 blk_l base_l es_l l) (fun _ => .bool true))) (nuX_one (on4 blk_l base_l es_l l))).hyps ho) (by omega) fi5_at fi5_body (lfCons (lpKnown rfl ⟨0, keyPn, lfOkPn_1 (l := lf2) (h := lh2) l ((smu (0, 0, 0, 0) l).1) ((smu (0, 0, 0, 0) l).2.1) ((smu (0, 0, 0, 0) l).2.2.1) ((smu (0, 0, 0, 0) l).2.2.2) (by omega) (0, (0 : Int), (0 : Int), (0 : Int), (0 : Int)) (mkIPn l ((smu (0, 0, 0, 0) l).1) ((smu (0, 0, 0, 0) l).2.1) ((smu (0, 0, 0, 0) l).2.2.1) ((smu (0, 0, 0, 0) l).2.2.2) 0 (0 : Int) (0 : Int) (0 : Int) (0 : Int) ⟨by omega, by omega, by omega, by assumption, by omega, by omega, rfl, by omega, by omega, by omega⟩) rfl (by kernel_rfl) (th0 := [(0, .i .i64 (.ofNat 0)), (1, .i .i64 (.ofNat 0)), (2000000, .x 2000000)]) (sg0 := []) (fun X => thCons (show Is _ (.i .i64 (.ofNat 0)) (.int .i64 ((0 : Int))) from isTo (v := .int .i64 0) (isI _ _) (by first | rfl | (congr 1; omega))) (thCons (show Is _ (.i .i64 (.ofNat 0)) (.int .i64 ((0 : Int))) from isTo (v := .int .i64 0) (isI _ _) (by first | rfl | (congr 1; omega))) (thXv (v := rwI .u8 l) rfl rfl (thNil)))) (by kernel_rfl) (thx := [(1, .x 0), (2, .x 1), (2000001, .x 2000000)]) (thXe (v := .int .i64 (((smu (0, 0, 0, 0) l).2.1))) (u := .int .i64 ((smu (0, 0, 0, 0) l).2.1)) rfl rfl (by first | rfl | (congr 1; omega)) (thXe (v := .int .i64 (((smu (0, 0, 0, 0) l).2.2.1))) (u := .int .i64 ((smu (0, 0, 0, 0) l).2.2.1)) rfl rfl (by first | rfl | (congr 1; omega)) (thXv (v := rwI .u8 l) rfl rfl (thNil)))) (by kernel_rfl)⟩) lfNil)) rfl (get_lps (by omega)) fiB5 [.r 2000000 5 1 true] [⟨blk_l, base_l, l.length, es_l⟩] (run4 ) (args := [.slice (some ⟨blk_l, base_l, none⟩) l.length es_l]) ⟨_, _, rfl, relSr w_l.room, rfl⟩ w hl rfl (by decide) (args1 (w_l.arg (g_l ) rfl)) nodup1
def hy5 : LK := [(.rl (.x 2000000) 1, .x 0),
  (.bin .gtr (.x 0) (.i .i64 (.ofNat 30)), .b false),
  (.bin .add (.x 1) (.i .i64 (.ofNat 5)), .x 2)]
def lh3 : LH := ⟨1, 3, 76, [(1, .r 2000000 5 1 true), (2, .b ⟨56, .l [.i .i64 (.ofNat 1), .i .i64 (.ofNat 2), .i .i64 (.ofNat 1), .i .i64 (.ofNat 0), .nils], 0, 0, 0, false, false⟩)], [(1, .r 2000001 5 1 true), (2, .b ⟨56, .l [.i .i64 (.ofNat 1), .i .i64 (.ofNat 2), .i .i64 (.ofNat 1), .x 1, .sl 3 0 0 0 true], 0, 0, 0, false, false⟩), (3, .b ⟨58, .l [.nilp], 1, 1, 0, false, true⟩)]⟩
def lf3 : LF := ⟨8, 97, [(0, .sr 1), (3, .p 2 0), (4, .i .i64 (.ofNat 0)), (5, .i .i64 (.ofNat 0))], [], (.exit 0), [(0, .sr 1), (3, .p 2 0), (4, .x 1)], some lh3⟩
noncomputable def tab5 : Tab := addLps ({ tabk with hyp := hy5 }) 5 fi5 [lf3]
theorem run5 : Go.AX.okB (call tab5 9000 5 [.sr 1] ⟨addR 1 [.r 2000000 5 1 true] (H0 ), 1 + List.length (α := Ent) [.r 2000000 5 1 true], 0, 0⟩) = true := by kernel_rfl
def nu5 (blk_l : Nat) (base_l : Nat) (es_l : Nat) (l : List Int) : List Value := [.int .i64 ((l.length : Int)),
  .int .i64 ((smu (0, 0, 0, 0) l).2.1),
  .int .i64 (((smu (0, 0, 0, 0) l).2.1) + 5)]
def ro5 (blk_l : Nat) (base_l : Nat) (es_l : Nat) (l : List Int) : List Value := [rwI .u8 l,
  rwI .u8 l]
theorem on5 (blk_l : Nat) (base_l : Nat) (es_l : Nat) (l : List Int) : ∀ j, (nuL (nu5 blk_l base_l es_l l) j).oneCell' = true := nuL_one (l := nu5 blk_l base_l es_l l) rfl
theorem path5 (blk_l : Nat) (base_l : Nat) (es_l : Nat) (l : List Int) (b0 : ∀ n, n ∈ l → 0 ≤ n ∧ n ≤ 255) (b1 : l.length ≤ 9223372036854775807) (h0 : ¬ (30 < (l.length : Int))) (h1 : ¬ ((smu (0, 0, 0, 0) l).1 = 0)) (h2 : ¬ ((smu (0, 0, 0, 0) l).1 = 1)) (h3 : (smu (0, 0, 0, 0) l).1 = 2) (w : World) (hl : laidE w) (w_l : InRow w 1 (l.map (Value.int .u8)) blk_l base_l l.length es_l) (g_l : (H0 ).get blk_l = none) : CwR 5 #[.slice (some ⟨blk_l, base_l, none⟩) l.length es_l] w (.bool true) := by
  have hrg := smu_rng l
  have ho : ∀ k r, (k, r) ∈ hy5 → HOk (cx (nuX (nu5 blk_l base_l es_l l) (rX (ro5 blk_l base_l es_l l) (fun _ => .bool true))) (nuX_one (on5 blk_l base_l es_l l)) 0 laidE laidE_stab) k r := by
    unfold hy5
    exact hc (kRlI (isX rfl) (denX rfl) (by first | omega | (simp <;> omega))) <|
     hc (gtcF rfl (by omega)) <|
     hc (adC rfl rfl (by omega)) <|
     hnil
  exact runPR (tb := tab5) (AllOk.lp1 ((tabkOk (nuX (nu5 blk_l base_l es_l l) (rX (ro5 blk_l base_l es_l l) (fun _ => .bool true))) (nuX_one (on5 blk_l base_l es_l l))).hyps ho) (by omega) fi5_at fi5_body (lfCons (lpKnown rfl ⟨0, keyPn, lfOkPn_2 (l := lf3) (h := lh3) l ((smu (0, 0, 0, 0) l).1) ((smu (0, 0, 0, 0) l).2.1) ((smu (0, 0, 0, 0) l).2.2.1) ((smu (0, 0, 0, 0) l).2.2.2) (by omega) (0, (0 : Int), (0 : Int), (0 : Int), (0 : Int)) (mkIPn l ((smu (0, 0, 0, 0) l).1) ((smu (0, 0, 0, 0) l).2.1) ((smu (0, 0, 0, 0) l).2.2.1) ((smu (0, 0, 0, 0) l).2.2.2) 0 (0 : Int) (0 : Int) (0 : Int) (0 : Int) ⟨by omega, by omega, by omega, by assumption, by omega, by omega, rfl, by omega, by omega, by omega⟩) rfl (by kernel_rfl) (th0 := [(0, .i .i64 (.ofNat 0)), (1, .i .i64 (.ofNat 0)), (2000000, .x 2000000)]) (sg0 := []) (fun X => thCons (show Is _ (.i .i64 (.ofNat 0)) (.int .i64 ((0 : Int))) from isTo (v := .int .i64 0) (isI _ _) (by first | rfl | (congr 1; omega))) (thCons (show Is _ (.i .i64 (.ofNat 0)) (.int .i64 ((0 : Int))) from isTo (v := .int .i64 0) (isI _ _) (by first | rfl | (congr 1; omega))) (thXv (v := rwI .u8 l) rfl rfl (thNil)))) (by kernel_rfl) (thx := [(1, .x 0), (2000001, .x 2000000)]) (thXe (v := .int .i64 (((smu (0, 0, 0, 0) l).2.1))) (u := .int .i64 ((smu (0, 0, 0, 0) l).2.1)) rfl rfl (by first | rfl | (congr 1; omega)) (thXv (v := rwI .u8 l) rfl rfl (thNil))) (by kernel_rfl)⟩) lfNil)) rfl (get_lps (by omega)) fiB5 [.r 2000000 5 1 true] [⟨blk_l, base_l, l.length, es_l⟩] (run5 ) (args := [.slice (some ⟨blk_l, base_l, none⟩) l.length es_l]) ⟨_, _, rfl, relSr w_l.room, rfl⟩ w hl rfl (by decide) (args1 (w_l.arg (g_l ) rfl)) nodup1
def hy6 : LK := [(.rl (.x 2000000) 1, .x 0),
  (.bin .gtr (.x 0) (.i .i64 (.ofNat 30)), .b false),
  (.bin .add (.x 1) (.i .i64 (.ofNat 5)), .x 4),
  (.bin .eql (.x 2) (.x 4), .b false),
  (.bin .eql (.x 3) (.x 4), .b false)]
def lh4 : LH := ⟨1, 3, 76, [(1, .r 2000000 5 1 true), (2, .b ⟨56, .l [.i .i64 (.ofNat 1), .i .i64 (.ofNat 2), .i .i64 (.ofNat 1), .i .i64 (.ofNat 0), .nils], 0, 0, 0, false, false⟩)], [(1, .r 2000001 5 1 true), (2, .b ⟨56, .l [.i .i64 (.ofNat 1), .i .i64 (.ofNat 2), .i .i64 (.ofNat 1), .x 1, .sl 3 0 2 0 true], 0, 0, 0, false, false⟩), (3, .b ⟨58, .l [.p 4 0, .p 10 0], 2, 1, 0, false, true⟩), (4, .b ⟨61, .l [.x 2, .i .i64 (.ofNat 0), .p 5 0], 0, 0, 0, false, false⟩), (5, .b ⟨66, .l [.sl 6 0 1 1 false, .p 9 0, .s 0 0, .i .i64 (.ofNat 0), .nils, .b false], 0, 0, 0, false, false⟩), (6, .b ⟨67, .l [.p 7 0], 0, 0, 0, false, false⟩), (7, .b ⟨111, .l [.i .i64 (.ofNat 1), .sl 8 0 3 0 true, .b false, .b false, .b false, .b false, .b false, .i .u32 (.ofNat 0), .i .i64 (.ofNat 0)], 0, 0, 0, false, false⟩), (8, .b ⟨25, .l [.i .i64 (.ofNat 1), .i .i64 (.ofNat 1), .s 8 65792, .i .i64 (.ofNat 0), .i .i64 (.ofNat 4), .i .i64 (.ofNat 1), .s 0 0, .i .i64 (.ofNat 0), .i .i64 (.ofNat 5), .i .i64 (.ofNat 1), .s 0 0, .i .i64 (.ofNat 0)], 12, 4, 0, false, true⟩), (9, .b ⟨123, .l [.i .i64 (.ofNat 65535), .nils, .i .i64 (.ofNat 0), .b false], 0, 0, 0, false, false⟩), (10, .b ⟨61, .l [.x 3, .i .i64 (.ofNat 0), .p 11 0], 0, 0, 0, false, false⟩), (11, .b ⟨66, .l [.sl 12 0 1 1 false, .p 15 0, .s 0 0, .i .i64 (.ofNat 0), .nils, .b false], 0, 0, 0, false, false⟩), (12, .b ⟨67, .l [.p 13 0], 0, 0, 0, false, false⟩), (13, .b ⟨111, .l [.i .i64 (.ofNat 1), .sl 14 0 3 0 true, .b false, .b false, .b false, .b false, .b false, .i .u32 (.ofNat 0), .i .i64 (.ofNat 0)], 0, 0, 0, false, false⟩), (14, .b ⟨25, .l [.i .i64 (.ofNat 1), .i .i64 (.ofNat 1), .s 8 65792, .i .i64 (.ofNat 0), .i .i64 (.ofNat 4), .i .i64 (.ofNat 1), .s 0 0, .i .i64 (.ofNat 0), .i .i64 (.ofNat 5), .i .i64 (.ofNat 1), .s 0 0, .i .i64 (.ofNat 0)], 12, 4, 0, false, true⟩), (15, .b ⟨123, .l [.i .i64 (.ofNat 65535), .nils, .i .i64 (.ofNat 0), .b false], 0, 0, 0, false, false⟩)]⟩
def lf4 : LF := ⟨8, 97, [(0, .sr 1), (3, .p 2 0), (4, .i .i64 (.ofNat 0)), (5, .i .i64 (.ofNat 0))], [], (.exit 0), [(0, .sr 1), (3, .p 2 0), (4, .x 1)], some lh4⟩
noncomputable def tab6 : Tab := addLps ({ tabk with hyp := hy6 }) 5 fi5 [lf4]
theorem run6 : Go.AX.okB (call tab6 9000 5 [.sr 1] ⟨addR 1 [.r 2000000 5 1 true] (H0 ), 1 + List.length (α := Ent) [.r 2000000 5 1 true], 0, 0⟩) = true := by kernel_rfl
def nu6 (blk_l : Nat) (base_l : Nat) (es_l : Nat) (l : List Int) : List Value := [.int .i64 ((l.length : Int)),
  .int .i64 ((smu (0, 0, 0, 0) l).2.1),
  .int .i64 ((smu (0, 0, 0, 0) l).2.2.1),
  .int .i64 ((smu (0, 0, 0, 0) l).2.2.2),
  .int .i64 (((smu (0, 0, 0, 0) l).2.1) + 5)]
def ro6 (blk_l : Nat) (base_l : Nat) (es_l : Nat) (l : List Int) : List Value := [rwI .u8 l,
  rwI .u8 l]
theorem on6 (blk_l : Nat) (base_l : Nat) (es_l : Nat) (l : List Int) : ∀ j, (nuL (nu6 blk_l base_l es_l l) j).oneCell' = true := nuL_one (l := nu6 blk_l base_l es_l l) rfl
theorem path6 (blk_l : Nat) (base_l : Nat) (es_l : Nat) (l : List Int) (b0 : ∀ n, n ∈ l → 0 ≤ n ∧ n ≤ 255) (b1 : l.length ≤ 9223372036854775807) (h0 : ¬ (30 < (l.length : Int))) (h1 : ¬ ((smu (0, 0, 0, 0) l).1 = 0)) (h2 : ¬ ((smu (0, 0, 0, 0) l).1 = 1)) (h3 : ¬ ((smu (0, 0, 0, 0) l).1 = 2)) (h4 : (smu (0, 0, 0, 0) l).1 = 3) (w : World) (hl : laidE w) (w_l : InRow w 1 (l.map (Value.int .u8)) blk_l base_l l.length es_l) (g_l : (H0 ).get blk_l = none) : CwR 5 #[.slice (some ⟨blk_l, base_l, none⟩) l.length es_l] w (.bool true) := by
  have hrg := smu_rng l
  have ho : ∀ k r, (k, r) ∈ hy6 → HOk (cx (nuX (nu6 blk_l base_l es_l l) (rX (ro6 blk_l base_l es_l l) (fun _ => .bool true))) (nuX_one (on6 blk_l base_l es_l l)) 0 laidE laidE_stab) k r := by
    unfold hy6
    exact hc (kRlI (isX rfl) (denX rfl) (by first | omega | (simp <;> omega))) <|
     hc (gtcF rfl (by omega)) <|
     hc (adC rfl rfl (by omega)) <|
     hc (eqXF rfl rfl (by omega)) <|
     hc (eqXF rfl rfl (by omega)) <|
     hnil
  exact runPR (tb := tab6) (AllOk.lp1 ((tabkOk (nuX (nu6 blk_l base_l es_l l) (rX (ro6 blk_l base_l es_l l) (fun _ => .bool true))) (nuX_one (on6 blk_l base_l es_l l))).hyps ho) (by omega) fi5_at fi5_body (lfCons (lpKnown rfl ⟨0, keyPn, lfOkPn_3 (l := lf4) (h := lh4) l ((smu (0, 0, 0, 0) l).1) ((smu (0, 0, 0, 0) l).2.1) ((smu (0, 0, 0, 0) l).2.2.1) ((smu (0, 0, 0, 0) l).2.2.2) (by omega) (0, (0 : Int), (0 : Int), (0 : Int), (0 : Int)) (mkIPn l ((smu (0, 0, 0, 0) l).1) ((smu (0, 0, 0, 0) l).2.1) ((smu (0, 0, 0, 0) l).2.2.1) ((smu (0, 0, 0, 0) l).2.2.2) 0 (0 : Int) (0 : Int) (0 : Int) (0 : Int) ⟨by omega, by omega, by omega, by assumption, by omega, by omega, rfl, by omega, by omega, by omega⟩) rfl (by kernel_rfl) (th0 := [(0, .i .i64 (.ofNat 0)), (1, .i .i64 (.ofNat 0)), (2000000, .x 2000000)]) (sg0 := []) (fun X => thCons (show Is _ (.i .i64 (.ofNat 0)) (.int .i64 ((0 : Int))) from isTo (v := .int .i64 0) (isI _ _) (by first | rfl | (congr 1; omega))) (thCons (show Is _ (.i .i64 (.ofNat 0)) (.int .i64 ((0 : Int))) from isTo (v := .int .i64 0) (isI _ _) (by first | rfl | (congr 1; omega))) (thXv (v := rwI .u8 l) rfl rfl (thNil)))) (by kernel_rfl) (thx := [(1, .x 0), (2, .x 1), (3, .x 2), (2000001, .x 2000000)]) (thXe (v := .int .i64 (((smu (0, 0, 0, 0) l).2.1))) (u := .int .i64 ((smu (0, 0, 0, 0) l).2.1)) rfl rfl (by first | rfl | (congr 1; omega)) (thXe (v := .int .i64 (((smu (0, 0, 0, 0) l).2.2.1))) (u := .int .i64 ((smu (0, 0, 0, 0) l).2.2.1)) rfl rfl (by first | rfl | (congr 1; omega)) (thXe (v := .int .i64 (((smu (0, 0, 0, 0) l).2.2.2))) (u := .int .i64 ((smu (0, 0, 0, 0) l).2.2.2)) rfl rfl (by first | rfl | (congr 1; omega)) (thXv (v := rwI .u8 l) rfl rfl (thNil))))) (by kernel_rfl)⟩) lfNil)) rfl (get_lps (by omega)) fiB5 [.r 2000000 5 1 true] [⟨blk_l, base_l, l.length, es_l⟩] (run6 ) (args := [.slice (some ⟨blk_l, base_l, none⟩) l.length es_l]) ⟨_, _, rfl, relSr w_l.room, rfl⟩ w hl rfl (by decide) (args1 (w_l.arg (g_l ) rfl)) nodup1
def hy7 : LK := [(.rl (.x 2000000) 1, .x 0),
  (.bin .gtr (.x 0) (.i .i64 (.ofNat 30)), .b false),
  (.bin .add (.x 1) (.i .i64 (.ofNat 5)), .x 3),
  (.bin .eql (.x 2) (.x 3), .b false)]
def lh5 : LH := ⟨1, 3, 76, [(1, .r 2000000 5 1 true), (2, .b ⟨56, .l [.i .i64 (.ofNat 1), .i .i64 (.ofNat 2), .i .i64 (.ofNat 1), .i .i64 (.ofNat 0), .nils], 0, 0, 0, false, false⟩)], [(1, .r 2000001 5 1 true), (2, .b ⟨56, .l [.i .i64 (.ofNat 1), .i .i64 (.ofNat 2), .i .i64 (.ofNat 1), .x 1, .sl 3 0 1 0 true], 0, 0, 0, false, false⟩), (3, .b ⟨58, .l [.p 4 0, .nilp], 2, 1, 0, false, true⟩), (4, .b ⟨61, .l [.x 2, .i .i64 (.ofNat 0), .p 5 0], 0, 0, 0, false, false⟩), (5, .b ⟨66, .l [.sl 6 0 1 1 false, .p 9 0, .s 0 0, .i .i64 (.ofNat 0), .nils, .b false], 0, 0, 0, false, false⟩), (6, .b ⟨67, .l [.p 7 0], 0, 0, 0, false, false⟩), (7, .b ⟨111, .l [.i .i64 (.ofNat 1), .sl 8 0 3 0 true, .b false, .b false, .b false, .b false, .b false, .i .u32 (.ofNat 0), .i .i64 (.ofNat 0)], 0, 0, 0, false, false⟩), (8, .b ⟨25, .l [.i .i64 (.ofNat 1), .i .i64 (.ofNat 1), .s 8 65792, .i .i64 (.ofNat 0), .i .i64 (.ofNat 4), .i .i64 (.ofNat 1), .s 0 0, .i .i64 (.ofNat 0), .i .i64 (.ofNat 5), .i .i64 (.ofNat 1), .s 0 0, .i .i64 (.ofNat 0)], 12, 4, 0, false, true⟩), (9, .b ⟨123, .l [.i .i64 (.ofNat 65535), .nils, .i .i64 (.ofNat 0), .b false], 0, 0, 0, false, false⟩)]⟩
def lf5 : LF := ⟨8, 97, [(0, .sr 1), (3, .p 2 0), (4, .i .i64 (.ofNat 0)), (5, .i .i64 (.ofNat 0))], [], (.exit 0), [(0, .sr 1), (3, .p 2 0), (4, .x 1)], some lh5⟩
noncomputable def tab7 : Tab := addLps ({ tabk with hyp := hy7 }) 5 fi5 [lf5]
theorem run7 : Go.AX.okB (call tab7 9000 5 [.sr 1] ⟨addR 1 [.r 2000000 5 1 true] (H0 ), 1 + List.length (α := Ent) [.r 2000000 5 1 true], 0, 0⟩) = true := by kernel_rfl
def nu7 (blk_l : Nat) (base_l : Nat) (es_l : Nat) (l : List Int) : List Value := [.int .i64 ((l.length : Int)),
  .int .i64 ((smu (0, 0, 0, 0) l).2.1),
  .int .i64 ((smu (0, 0, 0, 0) l).2.2.1),
  .int .i64 (((smu (0, 0, 0, 0) l).2.1) + 5)]
def ro7 (blk_l : Nat) (base_l : Nat) (es_l : Nat) (l : List Int) : List Value := [rwI .u8 l,
  rwI .u8 l]
theorem on7 (blk_l : Nat) (base_l : Nat) (es_l : Nat) (l : List Int) : ∀ j, (nuL (nu7 blk_l base_l es_l l) j).oneCell' = true := nuL_one (l := nu7 blk_l base_l es_l l) rfl
theorem path7 (blk_l : Nat) (base_l : Nat) (es_l : Nat) (l : List Int) (b0 : ∀ n, n ∈ l → 0 ≤ n ∧ n ≤ 255) (b1 : l.length ≤ 9223372036854775807) (h0 : ¬ (30 < (l.length : Int))) (h1 : ¬ ((smu (0, 0, 0, 0) l).1 = 0)) (h2 : ¬ ((smu (0, 0, 0, 0) l).1 = 1)) (h3 : ¬ ((smu (0, 0, 0, 0) l).1 = 2)) (h4 : ¬ ((smu (0, 0, 0, 0) l).1 = 3)) (h5 : (smu (0, 0, 0, 0) l).1 = 4) (w : World) (hl : laidE w) (w_l : InRow w 1 (l.map (Value.int .u8)) blk_l base_l l.length es_l) (g_l : (H0 ).get blk_l = none) : CwR 5 #[.slice (some ⟨blk_l, base_l, none⟩) l.length es_l] w (.bool true) := by
  have hrg := smu_rng l
  have ho : ∀ k r, (k, r) ∈ hy7 → HOk (cx (nuX (nu7 blk_l base_l es_l l) (rX (ro7 blk_l base_l es_l l) (fun _ => .bool true))) (nuX_one (on7 blk_l base_l es_l l)) 0 laidE laidE_stab) k r := by
    unfold hy7
    exact hc (kRlI (isX rfl) (denX rfl) (by first | omega | (simp <;> omega))) <|
     hc (gtcF rfl (by omega)) <|
     hc (adC rfl rfl (by omega)) <|
     hc (eqXF rfl rfl (by omega)) <|
     hnil
  exact runPR (tb := tab7) (AllOk.lp1 ((tabkOk (nuX (nu7 blk_l base_l es_l l) (rX (ro7 blk_l base_l es_l l) (fun _ => .bool true))) (nuX_one (on7 blk_l base_l es_l l))).hyps ho) (by omega) fi5_at fi5_body (lfCons (lpKnown rfl ⟨0, keyPn, lfOkPn_4 (l := lf5) (h := lh5) l ((smu (0, 0, 0, 0) l).1) ((smu (0, 0, 0, 0) l).2.1) ((smu (0, 0, 0, 0) l).2.2.1) ((smu (0, 0, 0, 0) l).2.2.2) (by omega) (0, (0 : Int), (0 : Int), (0 : Int), (0 : Int)) (mkIPn l ((smu (0, 0, 0, 0) l).1) ((smu (0, 0, 0, 0) l).2.1) ((smu (0, 0, 0, 0) l).2.2.1) ((smu (0, 0, 0, 0) l).2.2.2) 0 (0 : Int) (0 : Int) (0 : Int) (0 : Int) ⟨by omega, by omega, by omega, by assumption, by omega, by omega, rfl, by omega, by omega, by omega⟩) rfl (by kernel_rfl) (th0 := [(0, .i .i64 (.ofNat 0)), (1, .i .i64 (.ofNat 0)), (2000000, .x 2000000)]) (sg0 := []) (fun X => thCons (show Is _ (.i .i64 (.ofNat 0)) (.int .i64 ((0 : Int))) from isTo (v := .int .i64 0) (isI _ _) (by first | rfl | (congr 1; omega))) (thCons (show Is _ (.i .i64 (.ofNat 0)) (.int .i64 ((0 : Int))) from isTo (v := .int .i64 0) (isI _ _) (by first | rfl | (congr 1; omega))) (thXv (v := rwI .u8 l) rfl rfl (thNil)))) (by kernel_rfl) (thx := [(1, .x 0), (2, .x 1), (2000001, .x 2000000)]) (thXe (v := .int .i64 (((smu (0, 0, 0, 0) l).2.1))) (u := .int .i64 ((smu (0, 0, 0, 0) l).2.1)) rfl rfl (by first | rfl | (congr 1; omega)) (thXe (v := .int .i64 (((smu (0, 0, 0, 0) l).2.2.1))) (u := .int .i64 ((smu (0, 0, 0, 0) l).2.2.1)) rfl rfl (by first | rfl | (congr 1; omega)) (thXv (v := rwI .u8 l) rfl rfl (thNil)))) (by kernel_rfl)⟩) lfNil)) rfl (get_lps (by omega)) fiB5 [.r 2000000 5 1 true] [⟨blk_l, base_l, l.length, es_l⟩] (run7 ) (args := [.slice (some ⟨blk_l, base_l, none⟩) l.length es_l]) ⟨_, _, rfl, relSr w_l.room, rfl⟩ w hl rfl (by decide) (args1 (w_l.arg (g_l ) rfl)) nodup1
end Go.Proofs.Ytkhcgoeccmkmdaa.poolNumbers
