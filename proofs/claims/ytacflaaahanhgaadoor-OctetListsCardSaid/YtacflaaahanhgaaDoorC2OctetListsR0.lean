/- A part of the proof: an interpreter of the model's own code on partly known states, and that what it answers is what the program answers. No condition of its own. -/
import Derived.Test.YtacflaaahanhgaaDoorC2OctetListsO2
set_option maxRecDepth 100000
set_option linter.unusedVariables false
set_option linter.unusedSimpArgs false
set_option maxHeartbeats 4000000
namespace Go.Proofs.YtacflaaahanhgaaDoor.octetLists
open Go Go.AX Go.Proofs Go.Proofs.YtacflaaahanhgaaDoor
def hy0 : LK := [(.rn, .x 2000000)]
noncomputable def tab0 : Tab := addLps ({ tabk with hyp := hy0 }) 30 fi30 [⟨7777777, 30, [], [3], .goto 7777777, [], none⟩]
theorem run0 : Go.AX.okB (call tab0 9000 6 [.nils] ⟨H0 , 7, 0, 0⟩) = true := by kernel_rfl
def nu0 : List Value := []
def ro0 : List Value := [rwS ([] : List LB)]
theorem on0 : ∀ j, (nuL (nu0) j).oneCell' = true := nuL_one (l := nu0) rfl
theorem path0 (w : World) (hl : laidE w) : CwR 6 #[.slice none 0 0] w (.bool true) := by
  have ho : ∀ k r, (k, r) ∈ hy0 → HOk (cx (nuX (nu0) (rX (ro0) (fun _ => .bool true))) (nuX_one (on0)) 0 laidE laidE_stab) k r := by
    unfold hy0
    exact hc (kRn (denX rfl)) <|
     hnil
  exact runP (tb := tab0) (AllOk.lp1 ((tabkOk (nuX (nu0) (rX (ro0) (fun _ => .bool true))) (nuX_one (on0))).hyps ho) (by omega) fi30_at fi30_body (lfCons (.inr ⟨mkA30, mkB30, _, Tryd.func30, mkC30⟩) lfNil)) rfl (get_lps2 (by omega) (by omega) fi6_at) fiB6 (run0 ) (args := [.slice none 0 0]) (by simp only [RelL, Rel]; exact ⟨_, _, rfl, rfl, rfl⟩) w hl
def hy1 : LK := [(.rn, .x 2000000),
  (.slen (.x 0), .i .i64 (.ofNat 0))]
noncomputable def tab1 : Tab := addLps ({ tabk with hyp := hy1 }) 30 fi30 [⟨7777777, 30, [], [3], .goto 7777777, [], none⟩]
theorem run1 : Go.AX.okB (call tab1 9000 6 [.x 0] ⟨H0 , 7, 0, 0⟩) = true := by kernel_rfl
def nu1 (ad_l : Addr) : List Value := [.slice (some ad_l) 0 0]
def ro1 (ad_l : Addr) : List Value := [rwS ([] : List LB)]
theorem on1 (ad_l : Addr) : ∀ j, (nuL (nu1 ad_l) j).oneCell' = true := nuL_one (l := nu1 ad_l) rfl
theorem path1 (ad_l : Addr) (w : World) (hl : laidE w) : CwR 6 #[.slice (some ad_l) 0 0] w (.bool true) := by
  have ho : ∀ k r, (k, r) ∈ hy1 → HOk (cx (nuX (nu1 ad_l) (rX (ro1 ad_l) (fun _ => .bool true))) (nuX_one (on1 ad_l)) 0 laidE laidE_stab) k r := by
    unfold hy1
    exact hc (kRn (denX rfl)) <|
     hc (kSlen (isX rfl) (denZ (m := 0) rfl) rfl) <|
     hnil
  exact runP (tb := tab1) (AllOk.lp1 ((tabkOk (nuX (nu1 ad_l) (rX (ro1 ad_l) (fun _ => .bool true))) (nuX_one (on1 ad_l))).hyps ho) (by omega) fi30_at fi30_body (lfCons (.inr ⟨mkA30, mkB30, _, Tryd.func30, mkC30⟩) lfNil)) rfl (get_lps2 (by omega) (by omega) fi6_at) fiB6 (run1 ) (args := [.slice (some ad_l) 0 0]) (by simp only [RelL, Rel]; exact ⟨_, _, rfl, rfl, rfl⟩) w hl
def hy2 : LK := [(.rn, .x 2000001),
  (.rl (.x 2000000) 1, .x 0),
  (.bin .gtr (.x 0) (.i .i64 (.ofNat 30)), .b true)]
noncomputable def tab2 : Tab := addLps ({ tabk with hyp := hy2 }) 30 fi30 [⟨7777777, 30, [], [3], .goto 7777777, [], none⟩]
theorem run2 : Go.AX.okB (call tab2 9000 6 [.sr 7] ⟨addR 7 [.r 2000000 5 1 true] (H0 ), 7 + List.length (α := Ent) [.r 2000000 5 1 true], 0, 0⟩) = true := by kernel_rfl
def nu2 (blk_l : Nat) (base_l : Nat) (es_l : Nat) (l : List Int) : List Value := [.int .i64 ((l.length : Int))]
def ro2 (blk_l : Nat) (base_l : Nat) (es_l : Nat) (l : List Int) : List Value := [rwI .u8 l,
  rwS ([] : List LB)]
theorem on2 (blk_l : Nat) (base_l : Nat) (es_l : Nat) (l : List Int) : ∀ j, (nuL (nu2 blk_l base_l es_l l) j).oneCell' = true := nuL_one (l := nu2 blk_l base_l es_l l) rfl
theorem path2 (blk_l : Nat) (base_l : Nat) (es_l : Nat) (l : List Int) (b0 : ∀ n, n ∈ l → 0 ≤ n ∧ n ≤ 255) (b1 : l.length ≤ 9223372036854775807) (h0 : 30 < (l.length : Int)) (w : World) (hl : laidE w) (w_l : InRow w 1 (l.map (Value.int .u8)) blk_l base_l l.length es_l) (g_l : (H0 ).get blk_l = none) : CwR 6 #[.slice (some ⟨blk_l, base_l, none⟩) l.length es_l] w (.bool true) := by
  have ho : ∀ k r, (k, r) ∈ hy2 → HOk (cx (nuX (nu2 blk_l base_l es_l l) (rX (ro2 blk_l base_l es_l l) (fun _ => .bool true))) (nuX_one (on2 blk_l base_l es_l l)) 0 laidE laidE_stab) k r := by
    unfold hy2
    exact hc (kRn (denX rfl)) <|
     hc (kRlI (isX rfl) (denX rfl) (by first | omega | (simp <;> omega))) <|
     hc (gtcT rfl (by omega)) <|
     hnil
  exact runPR (tb := tab2) (AllOk.lp1 ((tabkOk (nuX (nu2 blk_l base_l es_l l) (rX (ro2 blk_l base_l es_l l) (fun _ => .bool true))) (nuX_one (on2 blk_l base_l es_l l))).hyps ho) (by omega) fi30_at fi30_body (lfCons (.inr ⟨mkA30, mkB30, _, Tryd.func30, mkC30⟩) lfNil)) rfl (get_lps2 (by omega) (by omega) fi6_at) fiB6 [.r 2000000 5 1 true] [⟨blk_l, base_l, l.length, es_l⟩] (run2 ) (args := [.slice (some ⟨blk_l, base_l, none⟩) l.length es_l]) ⟨_, _, rfl, relSr w_l.room, rfl⟩ w hl rfl (by decide) (args1 (w_l.arg (g_l ) rfl)) nodup1
end Go.Proofs.YtacflaaahanhgaaDoor.octetLists
