/- A part of the proof: an interpreter of the model's own code on partly known states, and that what it answers is what the program answers. No condition of its own. -/
import Derived.Test.YtkhcgoeccmkmdaaP1RecordRowsO5
set_option maxRecDepth 100000
set_option linter.unusedVariables false
set_option linter.unusedSimpArgs false
set_option maxHeartbeats 4000000
namespace Go.Proofs.Ytkhcgoeccmkmdaa.recordRows
open Go Go.AX Go.Proofs Go.Proofs.Ytkhcgoeccmkmdaa
def hy4 : LK := [(.rl (.x 2000000) 4, .x 0),
  (.bin .gtr (.x 0) (.i .i64 (.ofNat 12)), .b false)]
def lh3 : LH := ⟨1, 2, 31, [(1, .r 2000000 25 4 true)], [(1, .r 2000001 25 4 true)]⟩
def lf3 : LF := ⟨7, 65, [(0, .sr 1), (3, .s 0 0), (4, .i .i64 (.ofNat 0))], [], .ret, [(2, .b true)], some lh3⟩
noncomputable def tab4 : Tab := addLps ({ tabk with hyp := hy4 }) 3 fi3 [lf3]
theorem run4 : Go.AX.okB (call tab4 9000 3 [.sr 1] ⟨addR 1 [.r 2000000 25 4 true] (H0 ), 1 + List.length (α := Ent) [.r 2000000 25 4 true], 0, 0⟩) = true := by kernel_rfl
def nu4 (blk_l : Nat) (base_l : Nat) (es_l : Nat) (l : List (Int × Int × LB × Int)) : List Value := [.int .i64 ((l.length : Int))]
def ro4 (blk_l : Nat) (base_l : Nat) (es_l : Nat) (l : List (Int × Int × LB × Int)) : List Value := [rwG reC l,
  rwG reC l]
theorem on4 (blk_l : Nat) (base_l : Nat) (es_l : Nat) (l : List (Int × Int × LB × Int)) : ∀ j, (nuL (nu4 blk_l base_l es_l l) j).oneCell' = true := nuL_one (l := nu4 blk_l base_l es_l l) rfl
theorem path4 (blk_l : Nat) (base_l : Nat) (es_l : Nat) (l : List (Int × Int × LB × Int)) (b0 : ∀ n, n ∈ l → reB n) (b1 : l.length ≤ 9223372036854775807) (h0 : ¬ (12 < (l.length : Int))) (h1 : ¬ (okC l = true)) (w : World) (hl : laidE w) (w_l : InRow w 4 (l.flatMap reC) blk_l base_l l.length es_l) (g_l : (H0 ).get blk_l = none) : CwR 3 #[.slice (some ⟨blk_l, base_l, none⟩) l.length es_l] w (.bool true) := by
  have ho : ∀ k r, (k, r) ∈ hy4 → HOk (cx (nuX (nu4 blk_l base_l es_l l) (rX (ro4 blk_l base_l es_l l) (fun _ => .bool true))) (nuX_one (on4 blk_l base_l es_l l)) 0 laidE laidE_stab) k r := by
    unfold hy4
    exact hc (kRlG reC_len (isX rfl) (denX rfl) (by first | omega | (simp <;> omega))) <|
     hc (gtcF rfl (by omega)) <|
     hnil
  exact runPR (tb := tab4) (AllOk.lp1 ((tabkOk (nuX (nu4 blk_l base_l es_l l) (rX (ro4 blk_l base_l es_l l) (fun _ => .bool true))) (nuX_one (on4 blk_l base_l es_l l))).hyps ho) (by omega) fi3_at fi3_body (lfCons (lpKnown rfl ⟨0, keyRa, lfOkRa_1 (l := lf3) (h := lh3) l (Bool.eq_false_iff.2 (by assumption)) (0, (0 : Int), ([] : LB)) (mkIRa l 0 (0 : Int) ([] : LB) ⟨by omega, by omega, by omega, by assumption, by simp, rfl, rfl, by omega⟩) rfl (by kernel_rfl) (th0 := [(0, .i .i64 (.ofNat 0)), (1, .s 0 0), (2000000, .x 2000000)]) (sg0 := []) (fun X => thCons (show Is _ (.i .i64 (.ofNat 0)) (.int .i64 ((0 : Int))) from isTo (v := .int .i64 0) (isI _ _) (by first | rfl | (congr 1; omega))) (thCons (show Is _ (.s 0 0) (St' ([] : LB)) from isTo (v := St' ([] : LB)) (isSx (l := ([] : LB)) 0 0 rfl) (by first | rfl | (simp; done))) (thXv (v := rwG reC l) rfl rfl (thNil)))) (by kernel_rfl) (thx := [(2000001, .x 2000000)]) (thXv (v := rwG reC l) rfl rfl (thNil)) (by kernel_rfl)⟩) lfNil)) rfl (get_lps (by omega)) fiB3 [.r 2000000 25 4 true] [⟨blk_l, base_l, l.length, es_l⟩] (run4 ) (args := [.slice (some ⟨blk_l, base_l, none⟩) l.length es_l]) ⟨_, _, rfl, relSr w_l.room, rfl⟩ w hl rfl (by decide) (args1 (w_l.arg (g_l ) rfl)) nodup1
end Go.Proofs.Ytkhcgoeccmkmdaa.recordRows
