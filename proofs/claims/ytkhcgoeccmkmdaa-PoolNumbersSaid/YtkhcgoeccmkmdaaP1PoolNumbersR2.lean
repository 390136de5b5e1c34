/- A part of the proof: an interpreter of the model's own code on partly known states, and that what it answers is what the program answers. No condition of its own. -/
import Derived.Test.YtkhcgoeccmkmdaaP1PoolNumbersO
set_option maxRecDepth 100000
set_option linter.unusedVariables false
set_option linter.unusedSimpArgs false
set_option maxHeartbeats 4000000
namespace Go.Proofs.Ytkhcgoeccmkmdaa.poolNumbers
open Go Go.AX Go.Proofs Go.Proofs.Ytkhcgoeccmkmdaa
def hy8 : LK := [(.rl (.x 2000000) 1, .x 0),
  (.bin .gtr (.x 0) (.i .i64 (.ofNat 30)), .b false),
  (.bin .add (.x 1) (.i .i64 (.ofNat 5)), .x 2)]
def lh6 : LH := ⟨1, 3, 76, [(1, .r 2000000 5 1 true), (2, .b ⟨56, .l [.i .i64 (.ofNat 1), .i .i64 (.ofNat 2), .i .i64 (.ofNat 1), .i .i64 (.ofNat 0), .nils], 0, 0, 0, false, false⟩)], [(1, .r 2000001 5 1 true), (2, .b ⟨56, .l [.i .i64 (.ofNat 1), .i .i64 (.ofNat 2), .i .i64 (.ofNat 1), .x 1, .sl 3 0 0 0 true], 0, 0, 0, false, false⟩), (3, .b ⟨58, .l [.nilp, .nilp], 2, 1, 0, false, true⟩)]⟩
def lf6 : LF := ⟨8, 97, [(0, .sr 1), (3, .p 2 0), (4, .i .i64 (.ofNat 0)), (5, .i .i64 (.ofNat 0))], [], (.exit 0), [(0, .sr 1), (3, .p 2 0), (4, .x 1)], some lh6⟩
noncomputable def tab8 : Tab := addLps ({ tabk with hyp := hy8 }) 5 fi5 [lf6]
theorem run8 : Go.AX.okB (call tab8 9000 5 [.sr 1] ⟨addR 1 [.r 2000000 5 1 true] (H0 ), 1 + List.length (α := Ent) [.r 2000000 5 1 true], 0, 0⟩) = true := by kernel_rfl
def nu8 (blk_l : Nat) (base_l : Nat) (es_l : Nat) (l : List Int) : List Value := [.int .i64 ((l.length : Int)),
  .int .i64 ((smu (0, 0, 0, 0) l).2.1),
  .int .i64 (((smu (0, 0, 0, 0) l).2.1) + 5)]
def ro8 (blk_l : Nat) (base_l : Nat) (es_l : Nat) (l : List Int) : List Value := [rwI .u8 l,
  rwI .u8 l]
theorem on8 (blk_l : Nat) (base_l : Nat) (es_l : Nat) (l : List Int) : ∀ j, (nuL (nu8 blk_l base_l es_l l) j).oneCell' = true := nuL_one (l := nu8 blk_l base_l es_l l) rfl
theorem path8 (blk_l : Nat) (base_l : Nat) (es_l : Nat) (l : List Int) (b0 : ∀ n, n ∈ l → 0 ≤ n ∧ n ≤ 255) (b1 : l.length ≤ 9223372036854775807) (h0 : ¬ (30 < (l.length : Int))) (h1 : ¬ ((smu (0, 0, 0, 0) l).1 = 0)) (h2 : ¬ ((smu (0, 0, 0, 0) l).1 = 1)) (h3 : ¬ ((smu (0, 0, 0, 0) l).1 = 2)) (h4 : ¬ ((smu (0, 0, 0, 0) l).1 = 3)) (h5 : ¬ ((smu (0, 0, 0, 0) l).1 = 4)) (w : World) (hl : laidE w) (w_l : InRow w 1 (l.map (Value.int .u8)) blk_l base_l l.length es_l) (g_l : (H0 ).get blk_l = none) : CwR 5 #[.slice (some ⟨blk_l, base_l, none⟩) l.length es_l] w (.bool true) := by
  have hrg := smu_rng l
  have ho : ∀ k r, (k, r) ∈ hy8 → HOk (cx (nuX (nu8 blk_l base_l es_l l) (rX (ro8 blk_l base_l es_l l) (fun _ => .bool true))) (nuX_one (on8 blk_l base_l es_l l)) 0 laidE laidE_stab) k r := by
    unfold hy8
    exact hc (kRlI (isX rfl) (denX rfl) (by first | omega | (simp <;> omega))) <|
     hc (gtcF rfl (by omega)) <|
     hc (adC rfl rfl (by omega)) <|
     hnil
  exact runPR (tb := tab8) (AllOk.lp1 ((tabkOk (nuX (nu8 blk_l base_l es_l l) (rX (ro8 blk_l base_l es_l l) (fun _ => .bool true))) (nuX_one (on8 blk_l base_l es_l l))).hyps ho) (by omega) fi5_at fi5_body (lfCons (lpKnown rfl ⟨0, keyPn, lfOkPn_5 (l := lf6) (h := lh6) l ((smu (0, 0, 0, 0) l).1) ((smu (0, 0, 0, 0) l).2.1) ((smu (0, 0, 0, 0) l).2.2.1) ((smu (0, 0, 0, 0) l).2.2.2) (by omega) (0, (0 : Int), (0 : Int), (0 : Int), (0 : Int)) (mkIPn l ((smu (0, 0, 0, 0) l).1) ((smu (0, 0, 0, 0) l).2.1) ((smu (0, 0, 0, 0) l).2.2.1) ((smu (0, 0, 0, 0) l).2.2.2) 0 (0 : Int) (0 : Int) (0 : Int) (0 : Int) ⟨by omega, by omega, by omega, by assumption, by omega, by omega, rfl, by omega, by omega, by omega⟩) rfl (by kernel_rfl) (th0 := [(0, .i .i64 (.ofNat 0)), (1, .i .i64 (.ofNat 0)), (2000000, .x 2000000)]) (sg0 := []) (fun X => thCons (show Is _ (.i .i64 (.ofNat 0)) (.int .i64 ((0 : Int))) from isTo (v := .int .i64 0) (isI _ _) (by first | rfl | (congr 1; omega))) (thCons (show Is _ (.i .i64 (.ofNat 0)) (.int .i64 ((0 : Int))) from isTo (v := .int .i64 0) (isI _ _) (by first | rfl | (congr 1; omega))) (thXv (v := rwI .u8 l) rfl rfl (thNil)))) (by kernel_rfl) (thx := [(1, .x 0), (2000001, .x 2000000)]) (thXe (v := .int .i64 (((smu (0, 0, 0, 0) l).2.1))) (u := .int .i64 ((smu (0, 0, 0, 0) l).2.1)) rfl rfl (by first | rfl | (congr 1; omega)) (thXv (v := rwI .u8 l) rfl rfl (thNil))) (by kernel_rfl)⟩) lfNil)) rfl (get_lps (by omega)) fiB5 [.r 2000000 5 1 true] [⟨blk_l, base_l, l.length, es_l⟩] (run8 ) (args := [.slice (some ⟨blk_l, base_l, none⟩) l.length es_l]) ⟨_, _, rfl, relSr w_l.room, rfl⟩ w hl rfl (by decide) (args1 (w_l.arg (g_l ) rfl)) nodup1
end Go.Proofs.Ytkhcgoeccmkmdaa.poolNumbers
