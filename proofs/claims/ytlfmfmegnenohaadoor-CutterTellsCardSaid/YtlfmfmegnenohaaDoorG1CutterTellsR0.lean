/- A part of the proof: an interpreter of the model's own code on partly known states, and that what it answers is what the program answers. No condition of its own. -/
import Derived.Test.YtlfmfmegnenohaaDoorG1CutterTellsO7
set_option maxRecDepth 100000
set_option linter.unusedVariables false
set_option linter.unusedSimpArgs false
set_option maxHeartbeats 4000000
namespace Go.Proofs.YtlfmfmegnenohaaDoor.cutterTells
open Go Go.AX Go.Proofs Go.Proofs.YtlfmfmegnenohaaDoor
def hy0 : LK := [(.bytes [], .x 1),
  (.rn, .x 2000000)]
theorem run0 (e : Nat) : Go.AX.okB (call (tbl hy0) 9000 5 [.x 0, .es] ⟨H0 e , 1, 0, 0⟩) = true := by kernel_rfl
def nu0 (most : Int) (ad_l : Option Addr) (cp_l : Nat) : List Value := [.int .i64 (most),
  St' ([] : LB)]
def ro0 (most : Int) (ad_l : Option Addr) (cp_l : Nat) : List Value := [rwS ([] : List LB)]
theorem on0 (most : Int) (ad_l : Option Addr) (cp_l : Nat) : ∀ j, (nuL (nu0 most ad_l cp_l) j).oneCell' = true := nuL_one (l := nu0 most ad_l cp_l) rfl
theorem path0 (most : Int) (ad_l : Option Addr) (cp_l : Nat) (b0 : -9223372036854775808 ≤ most) (b1 : most ≤ 9223372036854775807) (w : World) (hl : laidE w) : CwR 5 #[.int .i64 most, .slice ad_l 0 cp_l] w (.bool true) := by
  have ho : ∀ k r, (k, r) ∈ hy0 → HOk (cx (nuX (nu0 most ad_l cp_l) (rX (ro0 most ad_l cp_l) (fun _ => .bool true))) (nuX_one (on0 most ad_l cp_l)) 1 laidE laidE_stab) k r := by
    unfold hy0
    exact hc (kBytesB (bs := ([] : LB)) .nil (denX rfl)) <|
     hc (kRn (denX rfl)) <|
     hnil
  obtain ⟨fi, hfi, hb⟩ := fiE
  exact runP (tb := (tbl hy0)) ((tabkOk (nuX (nu0 most ad_l cp_l) (rX (ro0 most ad_l cp_l) (fun _ => .bool true))) (nuX_one (on0 most ad_l cp_l))).hyps ho) rfl hfi hb (fun e => run0 e ) (args := [.int .i64 most, .slice ad_l 0 cp_l]) (by simp only [RelL, Rel]; exact ⟨_, _, rfl, rfl, ⟨_, _, rfl, ⟨_, _, rfl⟩, rfl⟩⟩) w hl
def hy1 : LK := [(.bytes [], .x 1),
  (.rn, .x 2000001),
  (.rl (.x 2000000) 1, .x 2),
  (.bin .gtr (.x 2) (.i .i64 (.ofNat 30)), .b false)]
def lh107 : LH := ⟨1, 10, 460, [(1, .r 2000000 9 1 true), (2, .b ⟨53, .l [.x 0, .nils, .i .i64 (.ofNat 0), .b false], 0, 0, 0, false, false⟩), (3, .b ⟨46, .l [.x 0, .s 0 0, .b false], 0, 0, 0, false, false⟩)], []⟩
def lf107 : LF := ⟨7, 81, [(1, .sr 1), (5, .p 2 0), (6, .p 3 0), (7, .i .i64 (.ofNat 0))], [], (.exit 0), [], some lh107⟩
noncomputable def tab1 : Tab := addLps ({ tabk with hyp := hy1 }) 5 fi5 [lf107]
theorem run1 (e : Nat) : Go.AX.okB (call tab1 9000 5 [.x 0, .sr 1] ⟨addR 1 [.r 2000000 9 1 true] (H0 e ), 1 + List.length (α := Ent) [.r 2000000 9 1 true], 0, 0⟩) = true := by kernel_rfl
def nu1 (most : Int) (blk_l : Nat) (base_l : Nat) (es_l : Nat) (l : List LB) : List Value := [.int .i64 (most),
  St' ([] : LB),
  .int .i64 ((l.length : Int))]
def ro1 (most : Int) (blk_l : Nat) (base_l : Nat) (es_l : Nat) (l : List LB) : List Value := [rwS l,
  rwS ([] : List LB)]
theorem on1 (most : Int) (blk_l : Nat) (base_l : Nat) (es_l : Nat) (l : List LB) : ∀ j, (nuL (nu1 most blk_l base_l es_l l) j).oneCell' = true := nuL_one (l := nu1 most blk_l base_l es_l l) rfl
theorem path1 (most : Int) (blk_l : Nat) (base_l : Nat) (es_l : Nat) (l : List LB) (b0 : -9223372036854775808 ≤ most) (b1 : most ≤ 9223372036854775807) (b2 : 1 ≤ l.length) (b3 : ∀ q, q ∈ l → q.length ≤ 140737488351232) (b4 : l.length ≤ 9223372036854775807) (h0 : ¬ (30 < (l.length : Int))) (h1 : okL l) (w : World) (hl : laidE w) (w_l : InRow w 1 (l.map St') blk_l base_l l.length es_l) (g_l : ∀ e, (H0 e ).get blk_l = none) : CwR 5 #[.int .i64 most, .slice (some ⟨blk_l, base_l, none⟩) l.length es_l] w (.bool true) := by
  have ho : ∀ k r, (k, r) ∈ hy1 → HOk (cx (nuX (nu1 most blk_l base_l es_l l) (rX (ro1 most blk_l base_l es_l l) (fun _ => .bool true))) (nuX_one (on1 most blk_l base_l es_l l)) 1 laidE laidE_stab) k r := by
    unfold hy1
    exact hc (kBytesB (bs := ([] : LB)) .nil (denX rfl)) <|
     hc (kRn (denX rfl)) <|
     hc (kRl (isX rfl) (denX rfl) (by first | omega | (simp <;> omega))) <|
     hc (gtcF rfl (by omega)) <|
     hnil
  exact runPR (tb := tab1) (AllOk.lp1 ((tabkOk (nuX (nu1 most blk_l base_l es_l l) (rX (ro1 most blk_l base_l es_l l) (fun _ => .bool true))) (nuX_one (on1 most blk_l base_l es_l l))).hyps ho) (by omega) fi5_at fi5_body (lfCons (lpKnown rfl ⟨0, keyTl, lfOkTl_0 (l := lf107) (h := lh107) most l (by assumption) (0, (0 : Int), [], 0) (mkITl most l 0 (0 : Int) [] 0 ⟨by omega, by omega, by omega, (fun q hq => nomatch hq), by assumption, by simp, fun h => by omega, fun _ => rfl, by omega⟩) rfl (by kernel_rfl) (th0 := [(0, .x 0), (1, .i .i64 (.ofNat 0)), (2, .x 0), (2000000, .x 2000000)]) (sg0 := []) (fun X => thXv (v := .int .i64 (most)) rfl rfl (thCons (show Is _ (.i .i64 (.ofNat 0)) (.int .i64 ((0 : Int))) from isTo (v := .int .i64 0) (isI _ _) (by first | rfl | (congr 1; omega))) (thXv (v := .int .i64 (most)) rfl rfl (thXv (v := rwS l) rfl rfl (thNil))))) (by kernel_rfl) (thx := []) (thNil) (by kernel_rfl)⟩) lfNil)) rfl (get_lps (by omega)) fiB5 [.r 2000000 9 1 true] [⟨blk_l, base_l, l.length, es_l⟩] (fun e => run1 e ) (args := [.int .i64 most, .slice (some ⟨blk_l, base_l, none⟩) l.length es_l]) ⟨_, _, rfl, rfl, ⟨_, _, rfl, relSrN (by decide) rfl w_l.room, rfl⟩⟩ w hl rfl (by decide) (fun e => (argsCons (w_l.arg (g_l e ) rfl) argsNil)) rfl
def hy2 : LK := [(.bytes [], .x 1),
  (.rn, .x 2000001),
  (.rl (.x 2000000) 1, .x 2),
  (.bin .gtr (.x 2) (.i .i64 (.ofNat 30)), .b false)]
def lh108 : LH := ⟨1, 10, 460, [(1, .r 2000000 9 1 true), (2, .b ⟨53, .l [.x 0, .nils, .i .i64 (.ofNat 0), .b false], 0, 0, 0, false, false⟩), (3, .b ⟨46, .l [.x 0, .s 0 0, .b false], 0, 0, 0, false, false⟩)], []⟩
def lf108 : LF := ⟨7, 81, [(1, .sr 1), (5, .p 2 0), (6, .p 3 0), (7, .i .i64 (.ofNat 0))], [], .ret, [(4, .b true)], some lh108⟩
noncomputable def tab2 : Tab := addLps ({ tabk with hyp := hy2 }) 5 fi5 [lf108]
theorem run2 (e : Nat) : Go.AX.okB (call tab2 9000 5 [.x 0, .sr 1] ⟨addR 1 [.r 2000000 9 1 true] (H0 e ), 1 + List.length (α := Ent) [.r 2000000 9 1 true], 0, 0⟩) = true := by kernel_rfl
def nu2 (most : Int) (blk_l : Nat) (base_l : Nat) (es_l : Nat) (l : List LB) : List Value := [.int .i64 (most),
  St' ([] : LB),
  .int .i64 ((l.length : Int))]
def ro2 (most : Int) (blk_l : Nat) (base_l : Nat) (es_l : Nat) (l : List LB) : List Value := [rwS l,
  rwS ([] : List LB)]
theorem on2 (most : Int) (blk_l : Nat) (base_l : Nat) (es_l : Nat) (l : List LB) : ∀ j, (nuL (nu2 most blk_l base_l es_l l) j).oneCell' = true := nuL_one (l := nu2 most blk_l base_l es_l l) rfl
theorem path2 (most : Int) (blk_l : Nat) (base_l : Nat) (es_l : Nat) (l : List LB) (b0 : -9223372036854775808 ≤ most) (b1 : most ≤ 9223372036854775807) (b2 : 1 ≤ l.length) (b3 : ∀ q, q ∈ l → q.length ≤ 140737488351232) (b4 : l.length ≤ 9223372036854775807) (h0 : ¬ (30 < (l.length : Int))) (h1 : ¬ (okL l)) (w : World) (hl : laidE w) (w_l : InRow w 1 (l.map St') blk_l base_l l.length es_l) (g_l : ∀ e, (H0 e ).get blk_l = none) : CwR 5 #[.int .i64 most, .slice (some ⟨blk_l, base_l, none⟩) l.length es_l] w (.bool true) := by
  have ho : ∀ k r, (k, r) ∈ hy2 → HOk (cx (nuX (nu2 most blk_l base_l es_l l) (rX (ro2 most blk_l base_l es_l l) (fun _ => .bool true))) (nuX_one (on2 most blk_l base_l es_l l)) 1 laidE laidE_stab) k r := by
    unfold hy2
    exact hc (kBytesB (bs := ([] : LB)) .nil (denX rfl)) <|
     hc (kRn (denX rfl)) <|
     hc (kRl (isX rfl) (denX rfl) (by first | omega | (simp <;> omega))) <|
     hc (gtcF rfl (by omega)) <|
     hnil
  exact runPR (tb := tab2) (AllOk.lp1 ((tabkOk (nuX (nu2 most blk_l base_l es_l l) (rX (ro2 most blk_l base_l es_l l) (fun _ => .bool true))) (nuX_one (on2 most blk_l base_l es_l l))).hyps ho) (by omega) fi5_at fi5_body (lfCons (lpKnown rfl ⟨0, keyTl, lfOkTl_1 (l := lf108) (h := lh108) most l (by assumption) (0, (0 : Int), [], 0) (mkITl most l 0 (0 : Int) [] 0 ⟨by omega, by omega, by omega, (fun q hq => nomatch hq), by assumption, by simp, fun h => by omega, fun _ => rfl, by omega⟩) rfl (by kernel_rfl) (th0 := [(0, .x 0), (1, .i .i64 (.ofNat 0)), (2, .x 0), (2000000, .x 2000000)]) (sg0 := []) (fun X => thXv (v := .int .i64 (most)) rfl rfl (thCons (show Is _ (.i .i64 (.ofNat 0)) (.int .i64 ((0 : Int))) from isTo (v := .int .i64 0) (isI _ _) (by first | rfl | (congr 1; omega))) (thXv (v := .int .i64 (most)) rfl rfl (thXv (v := rwS l) rfl rfl (thNil))))) (by kernel_rfl) (thx := []) (thNil) (by kernel_rfl)⟩) lfNil)) rfl (get_lps (by omega)) fiB5 [.r 2000000 9 1 true] [⟨blk_l, base_l, l.length, es_l⟩] (fun e => run2 e ) (args := [.int .i64 most, .slice (some ⟨blk_l, base_l, none⟩) l.length es_l]) ⟨_, _, rfl, rfl, ⟨_, _, rfl, relSrN (by decide) rfl w_l.room, rfl⟩⟩ w hl rfl (by decide) (fun e => (argsCons (w_l.arg (g_l e ) rfl) argsNil)) rfl
end Go.Proofs.YtlfmfmegnenohaaDoor.cutterTells
