/- A part of the proof: an interpreter of the model's own code on partly known states, and that what it answers is what the program answers. No condition of its own. -/
import Derived.Test.YtlfmfmegnenohaaDoorG1CutterCutsO8
set_option maxRecDepth 100000
set_option linter.unusedVariables false
set_option linter.unusedSimpArgs false
set_option maxHeartbeats 4000000
namespace Go.Proofs.YtlfmfmegnenohaaDoor.cutterCuts
open Go Go.AX Go.Proofs Go.Proofs.YtlfmfmegnenohaaDoor
def hy21 : LK := [(.bytes [], .x 1),
  (.rn, .x 2000002),
  (.rl (.x 2000000) 4, .x 2),
  (.bin .gtr (.x 2) (.i .i64 (.ofNat 10)), .b false),
  (.len (.x 0), .x 3),
  (.bin .gtr (.x 3) (.i .i64 (.ofNat 7)), .b false)]
def lh85 : LH := ⟨1, 20, 20, [(1, .r 2000000 26 4 true)], [(1, .r 2000003 26 4 true)]⟩
def lf85 : LF := ⟨7, 137, [(0, .sr 1), (7, .s 0 0), (8, .i .i64 (.ofNat 0))], [1, 2], .ret, [(6, .b true)], some lh85⟩
noncomputable def tab21 : Tab := addLps ({ tabk with hyp := hy21 }) 4 fi4 [lf85]
theorem run21 (e : Nat) : Go.AX.okB (call tab21 9000 4 [.sr 1, .x 0, .sr 2] ⟨addR 1 [.r 2000000 26 4 true, .r 2000001 5 1 true] (H0 e ), 1 + List.length (α := Ent) [.r 2000000 26 4 true, .r 2000001 5 1 true], 0, 0⟩) = true := by kernel_rfl
def nu21 (blk_z : Nat) (base_z : Nat) (es_z : Nat) (z : List (Int × Int × LB × Int)) (mo : LB) (blk_at_ : Nat) (base_at_ : Nat) (es_at_ : Nat) (at_ : List Int) : List Value := [St' mo,
  St' ([] : LB),
  .int .i64 ((z.length : Int)),
  .int .i64 ((mo.length : Int))]
def ro21 (blk_z : Nat) (base_z : Nat) (es_z : Nat) (z : List (Int × Int × LB × Int)) (mo : LB) (blk_at_ : Nat) (base_at_ : Nat) (es_at_ : Nat) (at_ : List Int) : List Value := [rwG reC z,
  rwI .u8 at_,
  rwS ([] : List LB),
  rwG reC z]
theorem on21 (blk_z : Nat) (base_z : Nat) (es_z : Nat) (z : List (Int × Int × LB × Int)) (mo : LB) (blk_at_ : Nat) (base_at_ : Nat) (es_at_ : Nat) (at_ : List Int) : ∀ j, (nuL (nu21 blk_z base_z es_z z mo blk_at_ base_at_ es_at_ at_) j).oneCell' = true := nuL_one (l := nu21 blk_z base_z es_z z mo blk_at_ base_at_ es_at_ at_) rfl
theorem path21 (blk_z : Nat) (base_z : Nat) (es_z : Nat) (z : List (Int × Int × LB × Int)) (mo : LB) (blk_at_ : Nat) (base_at_ : Nat) (es_at_ : Nat) (at_ : List Int) (b0 : 1 ≤ z.length) (b1 : ∀ n, n ∈ z → reB n) (b2 : z.length ≤ 9223372036854775807) (b3 : mo.length ≤ 9223372036854775807) (b4 : 1 ≤ at_.length) (b5 : ∀ n, n ∈ at_ → 0 ≤ n ∧ n ≤ 255) (b6 : at_.length ≤ 9223372036854775807) (h0 : ¬ (10 < (z.length : Int))) (h1 : ¬ (7 < (mo.length : Int))) (h2 : ¬ (okR 300 z)) (w : World) (hl : laidE w) (w_z : InRow w 4 (z.flatMap reC) blk_z base_z z.length es_z) (g_z : ∀ e, (H0 e ).get blk_z = none) (w_at_ : InRow w 1 (at_.map (Value.int .u8)) blk_at_ base_at_ at_.length es_at_) (g_at_ : ∀ e, (H0 e ).get blk_at_ = none) : CwR 4 #[.slice (some ⟨blk_z, base_z, none⟩) z.length es_z, St' mo, .slice (some ⟨blk_at_, base_at_, none⟩) at_.length es_at_] w (.bool true) := by
  have hn0 : ([] : LB).length = 0 := rfl
  have ho : ∀ k r, (k, r) ∈ hy21 → HOk (cx (nuX (nu21 blk_z base_z es_z z mo blk_at_ base_at_ es_at_ at_) (rX (ro21 blk_z base_z es_z z mo blk_at_ base_at_ es_at_ at_) (fun _ => .bool true))) (nuX_one (on21 blk_z base_z es_z z mo blk_at_ base_at_ es_at_ at_)) 1 laidE laidE_stab) k r := by
    unfold hy21
    exact hc (kBytesB (bs := ([] : LB)) .nil (denX rfl)) <|
     hc (kRn (denX rfl)) <|
     hc (kRlG reC_len (isX rfl) (denX rfl) (by first | omega | (simp <;> omega))) <|
     hc (gtcF rfl (by omega)) <|
     hc (lnV rfl rfl (by omega)) <|
     hc (gtcF rfl (by omega)) <|
     hnil
  exact runPR (tb := tab21) (AllOk.lp1 ((tabkOk (nuX (nu21 blk_z base_z es_z z mo blk_at_ base_at_ es_at_ at_) (rX (ro21 blk_z base_z es_z z mo blk_at_ base_at_ es_at_ at_) (fun _ => .bool true))) (nuX_one (on21 blk_z base_z es_z z mo blk_at_ base_at_ es_at_ at_))).hyps ho) (by omega) fi4_at fi4_body (lfCons (lpKnown rfl ⟨0, keyLa, lfOkLa_1 (l := lf85) (h := lh85) z (by assumption) (0, (0 : Int), ([] : LB)) (mkILa z 0 (0 : Int) ([] : LB) ⟨by omega, by omega, by omega, by assumption, by simp, rfl, (fun r hr => nomatch hr), by omega⟩) rfl (by kernel_rfl) (th0 := [(0, .i .i64 (.ofNat 0)), (1, .s 0 0), (2000000, .x 2000000)]) (sg0 := []) (fun X => thCons (show Is _ (.i .i64 (.ofNat 0)) (.int .i64 ((0 : Int))) from isTo (v := .int .i64 0) (isI _ _) (by first | rfl | (congr 1; omega))) (thCons (show Is _ (.s 0 0) (St' ([] : LB)) from isTo (v := St' ([] : LB)) (isSx (l := ([] : LB)) 0 0 rfl) (by first | rfl | (simp; done))) (thXv (v := rwG reC z) rfl rfl (thNil)))) (by kernel_rfl) (thx := [(2000003, .x 2000000)]) (thXv (v := rwG reC z) rfl rfl (thNil)) (by kernel_rfl)⟩) lfNil)) rfl (get_lps (by omega)) fiB4 [.r 2000000 26 4 true, .r 2000001 5 1 true] [⟨blk_z, base_z, z.length, es_z⟩, ⟨blk_at_, base_at_, at_.length, es_at_⟩] (fun e => run21 e ) (args := [.slice (some ⟨blk_z, base_z, none⟩) z.length es_z, St' mo, .slice (some ⟨blk_at_, base_at_, none⟩) at_.length es_at_]) ⟨_, _, rfl, relSrN (by decide) rfl w_z.room, ⟨_, _, rfl, rfl, ⟨_, _, rfl, relSrN (by decide) rfl w_at_.room, rfl⟩⟩⟩ w hl rfl (by decide) (fun e => (argsCons (w_z.arg (g_z e ) rfl) (argsCons (w_at_.arg (g_at_ e ) rfl) argsNil))) rfl
end Go.Proofs.YtlfmfmegnenohaaDoor.cutterCuts
