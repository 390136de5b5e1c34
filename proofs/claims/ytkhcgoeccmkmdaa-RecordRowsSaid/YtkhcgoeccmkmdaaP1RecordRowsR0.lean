/- A part of the proof: an interpreter of the model's own code on partly known states, and that what it answers is what the program answers. No condition of its own. -/
import Derived.Test.YtkhcgoeccmkmdaaP1RecordRowsO5
set_option maxRecDepth 100000
set_option linter.unusedVariables false
set_option linter.unusedSimpArgs false
set_option maxHeartbeats 4000000
namespace Go.Proofs.Ytkhcgoeccmkmdaa.recordRows
open Go Go.AX Go.Proofs Go.Proofs.Ytkhcgoeccmkmdaa
def hy0 : LK := []
theorem run0 : Go.AX.okB (call (tbl hy0) 9000 3 [.nils] ⟨H0 , 1, 0, 0⟩) = true := by kernel_rfl
def nu0 : List Value := []
theorem one0 : ∀ j, j < 1000000 → (nuL (nu0) j).oneCell' = true := fun j _ => nuL_one (l := nu0) rfl j
theorem path0 (w : World) (hl : laidE w) : CwR 3 #[.slice none 0 0] w (.bool true) := by
  have ho : ∀ k r, (k, r) ∈ hy0 → HOk (cx (nuL (nu0)) (one0) 0 laidE laidE_stab) k r := by
    unfold hy0
    exact hnil
  obtain ⟨fi, hfi, hb⟩ := fiE
  exact runP (tb := (tbl hy0)) ((tabkOk (nuL (nu0)) (one0)).hyps ho) rfl hfi hb (run0 ) (args := [.slice none 0 0]) (by simp only [RelL, Rel]; exact ⟨_, _, rfl, rfl, rfl⟩) w hl
def hy1 : LK := [(.slen (.x 0), .i .i64 (.ofNat 0))]
theorem run1 : Go.AX.okB (call (tbl hy1) 9000 3 [.x 0] ⟨H0 , 1, 0, 0⟩) = true := by kernel_rfl
def nu1 (ad_l : Addr) : List Value := [.slice (some ad_l) 0 0]
theorem one1 (ad_l : Addr) : ∀ j, j < 1000000 → (nuL (nu1 ad_l) j).oneCell' = true := fun j _ => nuL_one (l := nu1 ad_l) rfl j
theorem path1 (ad_l : Addr) (w : World) (hl : laidE w) : CwR 3 #[.slice (some ad_l) 0 0] w (.bool true) := by
  have ho : ∀ k r, (k, r) ∈ hy1 → HOk (cx (nuL (nu1 ad_l)) (one1 ad_l) 0 laidE laidE_stab) k r := by
    unfold hy1
    exact hc (kSlen (isX rfl) (denZ (m := 0) rfl) rfl) <|
     hnil
  obtain ⟨fi, hfi, hb⟩ := fiE
  exact runP (tb := (tbl hy1)) ((tabkOk (nuL (nu1 ad_l)) (one1 ad_l)).hyps ho) rfl hfi hb (run1 ) (args := [.slice (some ad_l) 0 0]) (by simp only [RelL, Rel]; exact ⟨_, _, rfl, rfl, rfl⟩) w hl
def hy2 : LK := [(.rl (.x 2000000) 4, .x 0),
  (.bin .gtr (.x 0) (.i .i64 (.ofNat 12)), .b true)]
theorem run2 : Go.AX.okB (call (tbl hy2) 9000 3 [.sr 1] ⟨addR 1 [.r 2000000 25 4 true] (H0 ), 1 + List.length (α := Ent) [.r 2000000 25 4 true], 0, 0⟩) = true := by kernel_rfl
def nu2 (blk_l : Nat) (base_l : Nat) (es_l : Nat) (l : List (Int × Int × LB × Int)) : List Value := [.int .i64 ((l.length : Int))]
def ro2 (blk_l : Nat) (base_l : Nat) (es_l : Nat) (l : List (Int × Int × LB × Int)) : List Value := [rwG reC l]
theorem on2 (blk_l : Nat) (base_l : Nat) (es_l : Nat) (l : List (Int × Int × LB × Int)) : ∀ j, (nuL (nu2 blk_l base_l es_l l) j).oneCell' = true := nuL_one (l := nu2 blk_l base_l es_l l) rfl
theorem path2 (blk_l : Nat) (base_l : Nat) (es_l : Nat) (l : List (Int × Int × LB × Int)) (b0 : ∀ n, n ∈ l → reB n) (b1 : l.length ≤ 9223372036854775807) (h0 : 12 < (l.length : Int)) (w : World) (hl : laidE w) (w_l : InRow w 4 (l.flatMap reC) blk_l base_l l.length es_l) (g_l : (H0 ).get blk_l = none) : CwR 3 #[.slice (some ⟨blk_l, base_l, none⟩) l.length es_l] w (.bool true) := by
  have ho : ∀ k r, (k, r) ∈ hy2 → HOk (cx (nuX (nu2 blk_l base_l es_l l) (rX (ro2 blk_l base_l es_l l) (fun _ => .bool true))) (nuX_one (on2 blk_l base_l es_l l)) 0 laidE laidE_stab) k r := by
    unfold hy2
    exact hc (kRlG reC_len (isX rfl) (denX rfl) (by first | omega | (simp <;> omega))) <|
     hc (gtcT rfl (by omega)) <|
     hnil
  obtain ⟨fi, hfi, hb⟩ := fiE
  exact runPR (tb := (tbl hy2)) ((tabkOk (nuX (nu2 blk_l base_l es_l l) (rX (ro2 blk_l base_l es_l l) (fun _ => .bool true))) (nuX_one (on2 blk_l base_l es_l l))).hyps ho) rfl hfi hb [.r 2000000 25 4 true] [⟨blk_l, base_l, l.length, es_l⟩] (run2 ) (args := [.slice (some ⟨blk_l, base_l, none⟩) l.length es_l]) ⟨_, _, rfl, relSr w_l.room, rfl⟩ w hl rfl (by decide) (args1 (w_l.arg (g_l ) rfl)) nodup1
def hy3 : LK := [(.rl (.x 2000000) 4, .x 0),
  (.bin .gtr (.x 0) (.i .i64 (.ofNat 12)), .b false),
  (.bin .eql (.x 2) (.s 0 0), .b true)]
def lh1 : LH := ⟨1, 2, 31, [(1, .r 2000000 25 4 true)], [(1, .r 2000001 25 4 true)]⟩
def lf1 : LF := ⟨7, 65, [(0, .sr 1), (3, .s 0 0), (4, .i .i64 (.ofNat 0))], [], (.exit 0), [(0, .sr 1), (3, .x 1)], some lh1⟩
def lh2 : LH := ⟨1, 31, 61, [(1, .r 2000001 25 4 true)], [(1, .r 2000002 25 4 true)]⟩
def lf2 : LF := ⟨13, 65, [(0, .sr 1), (3, .x 1), (5, .i .i64 (.ofNat 0))], [], (.exit 2), [(0, .sr 1), (3, .x 2)], some lh2⟩
noncomputable def tab3 : Tab := addLps ({ tabk with hyp := hy3 }) 3 fi3 [lf1, lf2]
theorem run3 : Go.AX.okB (call tab3 9000 3 [.sr 1] ⟨addR 1 [.r 2000000 25 4 true] (H0 ), 1 + List.length (α := Ent) [.r 2000000 25 4 true], 0, 0⟩) = true := by kernel_rfl
def nu3 (blk_l : Nat) (base_l : Nat) (es_l : Nat) (l : List (Int × Int × LB × Int)) : List Value := [.int .i64 ((l.length : Int)),
  St' (rbS l),
  St' ([] : LB)]
def ro3 (blk_l : Nat) (base_l : Nat) (es_l : Nat) (l : List (Int × Int × LB × Int)) : List Value := [rwG reC l,
  rwG reC l,
  rwG reC l]
theorem on3 (blk_l : Nat) (base_l : Nat) (es_l : Nat) (l : List (Int × Int × LB × Int)) : ∀ j, (nuL (nu3 blk_l base_l es_l l) j).oneCell' = true := nuL_one (l := nu3 blk_l base_l es_l l) rfl
theorem path3 (blk_l : Nat) (base_l : Nat) (es_l : Nat) (l : List (Int × Int × LB × Int)) (b0 : ∀ n, n ∈ l → reB n) (b1 : l.length ≤ 9223372036854775807) (h0 : ¬ (12 < (l.length : Int))) (h1 : okC l = true) (w : World) (hl : laidE w) (w_l : InRow w 4 (l.flatMap reC) blk_l base_l l.length es_l) (g_l : (H0 ).get blk_l = none) : CwR 3 #[.slice (some ⟨blk_l, base_l, none⟩) l.length es_l] w (.bool true) := by
  have hrl := rbS_len l (by assumption)
  have ho : ∀ k r, (k, r) ∈ hy3 → HOk (cx (nuX (nu3 blk_l base_l es_l l) (rX (ro3 blk_l base_l es_l l) (fun _ => .bool true))) (nuX_one (on3 blk_l base_l es_l l)) 0 laidE laidE_stab) k r := by
    unfold hy3
    exact hc (kRlG reC_len (isX rfl) (denX rfl) (by first | omega | (simp <;> omega))) <|
     hc (gtcF rfl (by omega)) <|
     hc (kEqS (isX rfl) (isSx (l := ([] : LB)) 0 0 rfl) (decide_eq_true rfl)) <|
     hnil
  exact runPR (tb := tab3) (AllOk.lp1 ((tabkOk (nuX (nu3 blk_l base_l es_l l) (rX (ro3 blk_l base_l es_l l) (fun _ => .bool true))) (nuX_one (on3 blk_l base_l es_l l))).hyps ho) (by omega) fi3_at fi3_body (lfCons (lpKnown rfl ⟨0, keyRa, lfOkRa_0 (l := lf1) (h := lh1) l (by assumption) (0, (0 : Int), ([] : LB)) (mkIRa l 0 (0 : Int) ([] : LB) ⟨by omega, by omega, by omega, by assumption, by simp, rfl, rfl, by omega⟩) rfl (by kernel_rfl) (th0 := [(0, .i .i64 (.ofNat 0)), (1, .s 0 0), (2000000, .x 2000000)]) (sg0 := []) (fun X => thCons (show Is _ (.i .i64 (.ofNat 0)) (.int .i64 ((0 : Int))) from isTo (v := .int .i64 0) (isI _ _) (by first | rfl | (congr 1; omega))) (thCons (show Is _ (.s 0 0) (St' ([] : LB)) from isTo (v := St' ([] : LB)) (isSx (l := ([] : LB)) 0 0 rfl) (by first | rfl | (simp; done))) (thXv (v := rwG reC l) rfl rfl (thNil)))) (by kernel_rfl) (thx := [(1, .x 0), (2000001, .x 2000000)]) (thXv (v := St' (rbS l)) rfl rfl (thXv (v := rwG reC l) rfl rfl (thNil))) (by kernel_rfl)⟩) (lfCons (lpKnown rfl ⟨1, keyRb, lfOkRb_0 (l := lf2) (h := lh2) l (0, (0 : Int)) (mkIRb l 0 (0 : Int) ⟨by omega, by omega, by omega, by assumption, by assumption, by omega⟩) rfl (by kernel_rfl) (th0 := [(0, .i .i64 (.ofNat 0)), (1, .x 1), (2000000, .x 2000001)]) (sg0 := []) (fun X => thCons (show Is _ (.i .i64 (.ofNat 0)) (.int .i64 ((0 : Int))) from isTo (v := .int .i64 0) (isI _ _) (by first | rfl | (congr 1; omega))) (thXe (v := St' (rbS l)) (u := St' (rbS (l.drop (Int.toNat (0 : Int))))) rfl rfl (rfl) (thXv (v := rwG reC l) rfl rfl (thNil)))) (by kernel_rfl) (thx := [(2, .x 0), (2000002, .x 2000000)]) (thXv (v := St' ([] : LB)) rfl rfl (thXv (v := rwG reC l) rfl rfl (thNil))) (by kernel_rfl)⟩) lfNil))) rfl (get_lps (by omega)) fiB3 [.r 2000000 25 4 true] [⟨blk_l, base_l, l.length, es_l⟩] (run3 ) (args := [.slice (some ⟨blk_l, base_l, none⟩) l.length es_l]) ⟨_, _, rfl, relSr w_l.room, rfl⟩ w hl rfl (by decide) (args1 (w_l.arg (g_l ) rfl)) nodup1
end Go.Proofs.Ytkhcgoeccmkmdaa.recordRows
