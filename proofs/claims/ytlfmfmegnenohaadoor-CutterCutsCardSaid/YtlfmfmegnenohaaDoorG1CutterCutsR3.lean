/- A part of the proof: an interpreter of the model's own code on partly known states, and that what it answers is what the program answers. No condition of its own. -/
import Derived.Test.YtlfmfmegnenohaaDoorG1CutterCutsO8
set_option maxRecDepth 100000
set_option linter.unusedVariables false
set_option linter.unusedSimpArgs false
set_option maxHeartbeats 4000000
namespace Go.Proofs.YtlfmfmegnenohaaDoor.cutterCuts
open Go Go.AX Go.Proofs Go.Proofs.YtlfmfmegnenohaaDoor
def hy9 : LK := [(.bytes [], .x 1),
  (.rn, .x 2000001),
  (.rl (.x 2000000) 4, .x 2),
  (.bin .gtr (.x 2) (.i .i64 (.ofNat 10)), .b false),
  (.len (.x 0), .x 3),
  (.bin .gtr (.x 3) (.i .i64 (.ofNat 7)), .b false),
  (.bin .gtr (.x 3) (.i .i64 (.ofNat 0)), .b true),
  (.idx (.x 0) (.i .i64 (.ofNat 0)), .x 5),
  (.bin .neq (.x 5) (.i .u8 (.ofNat 1)), .b true),
  (.bin .add (.x 4) (.s 0 0), .x 6),
  (.byt (.x 6) (.i .i64 (.ofNat 0)), .x 7),
  (.fit (.x 6), .b true),
  (.len (.x 6), .x 8),
  (.bin .lss (.x 8) (.i .i64 (.ofNat 0)), .b false),
  (.fit (.x 9), .b true),
  (.call 20 [.x 9], .x 11),
  (.rl (.x 2000003) 4, .x 13),
  (.rl (.x 2000002) 4, .x 14),
  (.bin .neq (.x 13) (.x 14), .b false),
  (.rl (.x 2000004) 4, .x 15),
  (.rl (.x 2000006) 4, .x 16),
  (.bin .neq (.x 15) (.x 16), .b false),
  (.len (.x 9), .x 17),
  (.bin .eql (.x 17) (.i .i64 (.ofNat 0)), .b true),
  (.len (.x 12), .x 18),
  (.bin .eql (.x 18) (.i .i64 (.ofNat 0)), .b true)]
def lh49 : LH := ⟨1, 20, 20, [(1, .r 2000000 26 4 true)], [(1, .r 2000002 26 4 true)]⟩
def lf49 : LF := ⟨7, 137, [(0, .sr 1), (7, .s 0 0), (8, .i .i64 (.ofNat 0))], [1, 2], (.exit 0), [(0, .sr 1), (7, .x 4)], some lh49⟩
def lh50 : LH := ⟨1, 120, 180, [(20, .b ⟨53, .l [.i .i64 (.ofNat 65535), .sy 22, .i .i64 (.ofNat 0), .b false], 0, 0, 0, false, false⟩), (22, .t 6 5)], [(20, .b ⟨53, .l [.i .i64 (.ofNat 65535), .sy 121, .x 10, .b false], 0, 0, 0, false, false⟩), (120, .r 2000003 26 4 false)]⟩
def lf50 : LF := ⟨2, 38, [(0, .p 20 0), (1, .x 6), (7, .nils)], [], .ret, [(4, .sr 120), (5, .x 9), (6, .ni)], some lh50⟩
def lh51 : LH := ⟨1, 300, 420, [(21, .b ⟨53, .l [.i .i64 (.ofNat 65535), .nils, .i .i64 (.ofNat 0), .b false], 0, 0, 0, false, false⟩)], [(302, .b ⟨53, .l [.i .i64 (.ofNat 65535), .sy 300, .und, .b false], 0, 0, 0, false, false⟩), (300, .t 12 5), (301, .r 2000004 26 4 false)]⟩
def lf51 : LF := ⟨19, 137, [(2, .es), (7, .x 6), (10, .p 21 0), (13, .nils), (14, .i .i64 (.ofNat 0))], [0, 1, 9, 11, 12], (.exit 2), [(10, .p 302 0), (13, .sr 301)], some lh51⟩
def lh52 : LH := ⟨1, 420, 420, [(120, .r 2000003 26 4 false), (1, .r 2000002 26 4 true)], [(120, .r 2000005 26 4 false), (1, .r 2000006 26 4 true)]⟩
def lf52 : LF := ⟨4, 26, [(0, .sr 120), (1, .sr 1), (5, .i .i64 (.ofNat 0))], [], (.exit 0), [], some lh52⟩
def lh53 : LH := ⟨1, 420, 420, [(301, .r 2000004 26 4 false), (1, .r 2000006 26 4 true)], [(301, .r 2000007 26 4 false), (1, .r 2000008 26 4 true)]⟩
def lf53 : LF := ⟨4, 26, [(0, .sr 301), (1, .sr 1), (5, .i .i64 (.ofNat 0))], [], (.exit 0), [], some lh53⟩
noncomputable def tab9 : Tab := addLps (addLps (addLps ({ tabk with hyp := hy9 }) 4 fi4 [lf49, lf51]) 19 fi19 [lf50]) 13 fi13 [lf52, lf53]
theorem run9 (e : Nat) : Go.AX.okB (call tab9 9000 4 [.sr 1, .x 0, .es] ⟨addR 1 [.r 2000000 26 4 true] (H0 e ), 1 + List.length (α := Ent) [.r 2000000 26 4 true], 0, 0⟩) = true := by kernel_rfl
def nu9 (blk_z : Nat) (base_z : Nat) (es_z : Nat) (z : List (Int × Int × LB × Int)) (mo : LB) (ad_at_ : Option Addr) (cp_at_ : Nat) : List Value := [St' mo,
  St' ([] : LB),
  .int .i64 ((z.length : Int)),
  .int .i64 ((mo.length : Int)),
  St' (rbS z),
  .int .u8 (bt mo 0),
  St' (rbS z),
  .int .u8 (bt (rbS z) 0),
  .int .i64 (((rbS z).length : Int)),
  St' ((cU (rbS z)).2.1),
  .int .i64 (0),
  .int .i64 ((ndS ((cU (rbS z)).2.1))),
  St' ((cU (rbS z)).2.1),
  .int .i64 (((cU (rbS z)).1.length : Int)),
  .int .i64 ((z.length : Int)),
  .int .i64 (((cU (rbS z)).1.length : Int)),
  .int .i64 ((z.length : Int)),
  .int .i64 (((cU (rbS z)).2.1.length : Int)),
  .int .i64 (((cU (rbS z)).2.1.length : Int))]
def ro9 (blk_z : Nat) (base_z : Nat) (es_z : Nat) (z : List (Int × Int × LB × Int)) (mo : LB) (ad_at_ : Option Addr) (cp_at_ : Nat) : List Value := [rwG reC z,
  rwS ([] : List LB),
  rwG reC z,
  rwG reC ((cU (rbS z)).1),
  rwG reC ((cU (rbS z)).1),
  rwG reC ((cU (rbS z)).1),
  rwG reC z,
  rwG reC ((cU (rbS z)).1),
  rwG reC z]
theorem on9 (blk_z : Nat) (base_z : Nat) (es_z : Nat) (z : List (Int × Int × LB × Int)) (mo : LB) (ad_at_ : Option Addr) (cp_at_ : Nat) : ∀ j, (nuL (nu9 blk_z base_z es_z z mo ad_at_ cp_at_) j).oneCell' = true := nuL_one (l := nu9 blk_z base_z es_z z mo ad_at_ cp_at_) rfl
theorem path9 (blk_z : Nat) (base_z : Nat) (es_z : Nat) (z : List (Int × Int × LB × Int)) (mo : LB) (ad_at_ : Option Addr) (cp_at_ : Nat) (b0 : 1 ≤ z.length) (b1 : ∀ n, n ∈ z → reB n) (b2 : z.length ≤ 9223372036854775807) (b3 : mo.length ≤ 9223372036854775807) (h0 : ¬ (10 < (z.length : Int))) (h1 : ¬ (7 < (mo.length : Int))) (h2 : okR 300 z) (h3 : 0 < (mo.length : Int)) (h4 : ¬ (bt mo 0 = 1)) (w : World) (hl : laidE w) (w_z : InRow w 4 (z.flatMap reC) blk_z base_z z.length es_z) (g_z : ∀ e, (H0 e ).get blk_z = none) : CwR 4 #[.slice (some ⟨blk_z, base_z, none⟩) z.length es_z, St' mo, .slice ad_at_ 0 cp_at_] w (.bool true) := by
  have hn0 : ([] : LB).length = 0 := rfl
  have hrl := rbS_len (b := 300) (by omega) z (by assumption)
  have := bt_lo mo 0; have := bt_hi mo 0
  have := bt_lo (rbS z) 0; have := bt_hi (rbS z) 0
  obtain ⟨hX1, hX2, hX3, hX4⟩ := fX0 (z := z) (by assumption)
  have hX5 := congrArg List.length hX1; have hX6 := congrArg List.length hX2; have hrp := rbS_pos z (by assumption)
  have hSl : ((rbS z)).length ≤ 10000 := by first | omega | (simp only [List.length_append]; omega)
  have ho : ∀ k r, (k, r) ∈ hy9 → HOk (cx (nuX (nu9 blk_z base_z es_z z mo ad_at_ cp_at_) (rX (ro9 blk_z base_z es_z z mo ad_at_ cp_at_) (fun _ => .bool true))) (nuX_one (on9 blk_z base_z es_z z mo ad_at_ cp_at_)) 1 laidE laidE_stab) k r := by
    unfold hy9
    exact hc (kBytesB (bs := ([] : LB)) .nil (denX rfl)) <|
     hc (kRn (denX rfl)) <|
     hc (kRlG reC_len (isX rfl) (denX rfl) (by first | omega | (simp <;> omega))) <|
     hc (gtcF rfl (by omega)) <|
     hc (lnV rfl rfl (by omega)) <|
     hc (gtcF rfl (by omega)) <|
     hc (gtcT rfl (by omega)) <|
     hc (ixC rfl rfl (by omega)) <|
     hc (necT rfl (by omega)) <|
     hc (kCat (isX rfl) (isSx (l := ([] : LB)) 0 0 rfl) (denX rfl) (by first | rfl | (simp; done)) (by omega)) <|
     hc (kByt (i := 0) (isX rfl) (isZ (m := 0) rfl) (denX rfl) rfl (by first | omega | (simp <;> omega)) rfl) <|
     hc (kFit (isX rfl) (by first | omega | (simp <;> omega))) <|
     hc (lnV rfl rfl (by omega)) <|
     hc (ltcF rfl (by omega)) <|
     hc (kFit (isX rfl) (by first | omega | (simp <;> omega))) <|
     hc (hokNds (isX rfl) (denX rfl) (by omega)) <|
     hc (kRlG reC_len (isX rfl) (denX rfl) (by first | omega | (simp <;> omega))) <|
     hc (kRlG reC_len (isX rfl) (denX rfl) (by first | omega | (simp <;> omega))) <|
     hc (kNeI (isX rfl) (isX rfl) (neF (by omega))) <|
     hc (kRlG reC_len (isX rfl) (denX rfl) (by first | omega | (simp <;> omega))) <|
     hc (kRlG reC_len (isX rfl) (denX rfl) (by first | omega | (simp <;> omega))) <|
     hc (kNeI (isX rfl) (isX rfl) (neF (by omega))) <|
     hc (lnV rfl rfl (by omega)) <|
     hc (eqcT rfl (by omega)) <|
     hc (lnV rfl rfl (by omega)) <|
     hc (eqcT rfl (by omega)) <|
     hnil
  exact runPR (tb := tab9) (AllOk.lp1 (AllOk.lp1 (AllOk.lp1 ((tabkOk (nuX (nu9 blk_z base_z es_z z mo ad_at_ cp_at_) (rX (ro9 blk_z base_z es_z z mo ad_at_ cp_at_) (fun _ => .bool true))) (nuX_one (on9 blk_z base_z es_z z mo ad_at_ cp_at_))).hyps ho) (by omega) fi4_at fi4_body (lfCons (lpKnown rfl ⟨0, keyLa, lfOkLa_0 (l := lf49) (h := lh49) z (by assumption) (0, (0 : Int), ([] : LB)) (mkILa z 0 (0 : Int) ([] : LB) ⟨by omega, by omega, by omega, by assumption, by simp, rfl, (fun r hr => nomatch hr), by omega⟩) rfl (by kernel_rfl) (th0 := [(0, .i .i64 (.ofNat 0)), (1, .s 0 0), (2000000, .x 2000000)]) (sg0 := []) (fun X => thCons (show Is _ (.i .i64 (.ofNat 0)) (.int .i64 ((0 : Int))) from isTo (v := .int .i64 0) (isI _ _) (by first | rfl | (congr 1; omega))) (thCons (show Is _ (.s 0 0) (St' ([] : LB)) from isTo (v := St' ([] : LB)) (isSx (l := ([] : LB)) 0 0 rfl) (by first | rfl | (simp; done))) (thXv (v := rwG reC z) rfl rfl (thNil)))) (by kernel_rfl) (thx := [(4, .x 0), (2000002, .x 2000000)]) (thXv (v := St' (rbS z)) rfl rfl (thXv (v := rwG reC z) rfl rfl (thNil))) (by kernel_rfl)⟩) (lfCons (lpKnown rfl ⟨1, keyFd0, lfOkFd0_2 (l := lf51) (h := lh51) (rbS z) (by omega) (0, (rbS z), [], (0 : Int), (0 : Int)) (mkIFd0 (rbS z) 0 (rbS z) [] (0 : Int) (0 : Int) ⟨rfl, hSl, hX4, by omega, by simp, (by rw [cU_nil]; exact nd_nil (by omega)), fun _ => rfl, fun h => by omega, fun h => absurd rfl h, fun h => by omega, by omega⟩) rfl (by kernel_rfl) (th0 := [(0, .x 6), (1, .i .i64 (.ofNat 0))]) (sg0 := [(302, 21)]) (fun X => thXv (v := St' (rbS z)) rfl rfl (thCons (show Is _ (.i .i64 (.ofNat 0)) (.int .i64 ((0 : Int))) from isTo (v := .int .i64 0) (isI _ _) (by first | rfl | (congr 1; omega))) (thNil))) (by kernel_rfl) (thx := [(12, .x 0), (2000004, .x 2000000)]) (thXv (v := St' ((cU (rbS z)).2.1)) rfl rfl (thXv (v := rwG reC ((cU (rbS z)).1)) rfl rfl (thNil))) (by kernel_rfl)⟩) lfNil))) (by omega) (get_lps2 (by omega) (by omega) fi19_at) fi19_body (lfCons (lpKnown rfl ⟨0, keyCu0, lfOkCu0_1 (l := lf50) (h := lh50) ((cU (rbS z)).1) ((cU (rbS z)).2.1) ((cU (rbS z)).2.2) 0 hX3 (by omega) (0, (rbS z), []) (mkICu0 ((cU (rbS z)).1) ((cU (rbS z)).2.1) ((cU (rbS z)).2.2) 0 0 (rbS z) [] ⟨by omega, rfl, rfl, rfl, by simp only [List.length_nil]; omega, fun _ => rfl, fun h => by omega, by omega⟩) rfl (by kernel_rfl) (th0 := [(0, .x 6), (1, .i .i64 (.ofNat 0))]) (sg0 := [(121, 22)]) (fun X => thXv (v := St' (rbS z)) rfl rfl (thCons (show Is _ (.i .i64 (.ofNat 0)) (.int .i64 (0)) from isTo (v := .int .i64 0) (isI _ _) (by first | rfl | (congr 1; omega))) (thNil))) (by kernel_rfl) (thx := [(9, .x 0), (10, .x 1), (2000003, .x 2000000)]) (thXv (v := St' ((cU (rbS z)).2.1)) rfl rfl (thXv (v := .int .i64 (0)) rfl rfl (thXv (v := rwG reC ((cU (rbS z)).1)) rfl rfl (thNil)))) (by kernel_rfl)⟩) lfNil)) (by omega) (get_lps2 (by omega) (by omega) (get_lps2 (by omega) (by omega) fi13_at)) fi13_body (lfCons (lpKnown rfl ⟨0, keySa0, lfOkSa0_0 (l := lf52) (h := lh52) z (0, (0 : Int)) (mkISa0 z 0 (0 : Int) ⟨by omega, by omega, by omega, by assumption, by omega⟩) rfl (by kernel_rfl) (th0 := [(0, .i .i64 (.ofNat 0)), (2000000, .x 2000003), (2000001, .x 2000002)]) (sg0 := []) (fun X => thCons (show Is _ (.i .i64 (.ofNat 0)) (.int .i64 ((0 : Int))) from isTo (v := .int .i64 0) (isI _ _) (by first | rfl | (congr 1; omega))) (thXe (v := rwG reC ((cU (rbS z)).1)) (u := rwG reC z) rfl rfl (congrArg (rwG reC) hX1) (thXv (v := rwG reC z) rfl rfl (thNil)))) (by kernel_rfl) (thx := [(2000005, .x 2000000), (2000006, .x 2000001)]) (thXe (v := rwG reC z) (u := rwG reC ((cU (rbS z)).1)) rfl rfl ((congrArg (rwG reC) hX1).symm) (thXv (v := rwG reC z) rfl rfl (thNil))) (by kernel_rfl)⟩) (lfCons (lpKnown rfl ⟨0, keySa1, lfOkSa1_0 (l := lf53) (h := lh53) z (0, (0 : Int)) (mkISa1 z 0 (0 : Int) ⟨by omega, by omega, by omega, by assumption, by omega⟩) rfl (by kernel_rfl) (th0 := [(0, .i .i64 (.ofNat 0)), (2000000, .x 2000004), (2000001, .x 2000006)]) (sg0 := []) (fun X => thCons (show Is _ (.i .i64 (.ofNat 0)) (.int .i64 ((0 : Int))) from isTo (v := .int .i64 0) (isI _ _) (by first | rfl | (congr 1; omega))) (thXe (v := rwG reC ((cU (rbS z)).1)) (u := rwG reC z) rfl rfl (congrArg (rwG reC) hX1) (thXv (v := rwG reC z) rfl rfl (thNil)))) (by kernel_rfl) (thx := [(2000007, .x 2000000), (2000008, .x 2000001)]) (thXe (v := rwG reC z) (u := rwG reC ((cU (rbS z)).1)) rfl rfl ((congrArg (rwG reC) hX1).symm) (thXv (v := rwG reC z) rfl rfl (thNil))) (by kernel_rfl)⟩) lfNil))) rfl (get_lps2 (by omega) (by omega) (get_lps2 (by omega) (by omega) (get_lps (by omega)))) fiB4 [.r 2000000 26 4 true] [⟨blk_z, base_z, z.length, es_z⟩] (fun e => run9 e ) (args := [.slice (some ⟨blk_z, base_z, none⟩) z.length es_z, St' mo, .slice ad_at_ 0 cp_at_]) ⟨_, _, rfl, relSrN (by decide) rfl w_z.room, ⟨_, _, rfl, rfl, ⟨_, _, rfl, ⟨_, _, rfl⟩, rfl⟩⟩⟩ w hl rfl (by decide) (fun e => (argsCons (w_z.arg (g_z e ) rfl) argsNil)) rfl
def hy10 : LK := [(.bytes [], .x 1),
  (.rn, .x 2000001),
  (.rl (.x 2000000) 4, .x 2),
  (.bin .gtr (.x 2) (.i .i64 (.ofNat 10)), .b false),
  (.len (.x 0), .x 3),
  (.bin .gtr (.x 3) (.i .i64 (.ofNat 7)), .b false),
  (.bin .gtr (.x 3) (.i .i64 (.ofNat 0)), .b true),
  (.idx (.x 0) (.i .i64 (.ofNat 0)), .x 5),
  (.bin .neq (.x 5) (.i .u8 (.ofNat 1)), .b false),
  (.bin .add (.x 4) (.x 0), .x 6),
  (.byt (.x 6) (.i .i64 (.ofNat 0)), .x 7),
  (.fit (.x 6), .b true),
  (.len (.x 6), .x 8),
  (.bin .lss (.x 8) (.i .i64 (.ofNat 0)), .b false),
  (.fit (.x 9), .b true),
  (.call 20 [.x 9], .x 11),
  (.rl (.x 2000003) 4, .x 13),
  (.rl (.x 2000002) 4, .x 14),
  (.bin .neq (.x 13) (.x 14), .b false),
  (.rl (.x 2000004) 4, .x 15),
  (.rl (.x 2000006) 4, .x 16),
  (.bin .neq (.x 15) (.x 16), .b false),
  (.len (.x 9), .x 17),
  (.bin .eql (.x 17) (.x 3), .b true),
  (.len (.x 12), .x 18),
  (.bin .eql (.x 18) (.x 3), .b true)]
def lh54 : LH := ⟨1, 20, 20, [(1, .r 2000000 26 4 true)], [(1, .r 2000002 26 4 true)]⟩
def lf54 : LF := ⟨7, 137, [(0, .sr 1), (7, .s 0 0), (8, .i .i64 (.ofNat 0))], [1, 2], (.exit 0), [(0, .sr 1), (7, .x 4)], some lh54⟩
def lh55 : LH := ⟨1, 120, 180, [(20, .b ⟨53, .l [.i .i64 (.ofNat 65535), .sy 22, .i .i64 (.ofNat 0), .b false], 0, 0, 0, false, false⟩), (22, .t 6 5)], [(20, .b ⟨53, .l [.i .i64 (.ofNat 65535), .sy 121, .x 10, .b false], 0, 0, 0, false, false⟩), (120, .r 2000003 26 4 false)]⟩
def lf55 : LF := ⟨2, 38, [(0, .p 20 0), (1, .x 6), (7, .nils)], [], .ret, [(4, .sr 120), (5, .x 9), (6, .ni)], some lh55⟩
def lh56 : LH := ⟨1, 300, 420, [(21, .b ⟨53, .l [.i .i64 (.ofNat 65535), .nils, .i .i64 (.ofNat 0), .b false], 0, 0, 0, false, false⟩)], [(302, .b ⟨53, .l [.i .i64 (.ofNat 65535), .sy 300, .und, .b false], 0, 0, 0, false, false⟩), (300, .t 12 5), (301, .r 2000004 26 4 false)]⟩
def lf56 : LF := ⟨19, 137, [(2, .es), (7, .x 6), (10, .p 21 0), (13, .nils), (14, .i .i64 (.ofNat 0))], [0, 1, 9, 11, 12], (.exit 2), [(10, .p 302 0), (13, .sr 301)], some lh56⟩
def lh57 : LH := ⟨1, 420, 420, [(120, .r 2000003 26 4 false), (1, .r 2000002 26 4 true)], [(120, .r 2000005 26 4 false), (1, .r 2000006 26 4 true)]⟩
def lf57 : LF := ⟨4, 26, [(0, .sr 120), (1, .sr 1), (5, .i .i64 (.ofNat 0))], [], (.exit 0), [], some lh57⟩
def lh58 : LH := ⟨1, 420, 420, [(301, .r 2000004 26 4 false), (1, .r 2000006 26 4 true)], [(301, .r 2000007 26 4 false), (1, .r 2000008 26 4 true)]⟩
def lf58 : LF := ⟨4, 26, [(0, .sr 301), (1, .sr 1), (5, .i .i64 (.ofNat 0))], [], (.exit 0), [], some lh58⟩
noncomputable def tab10 : Tab := addLps (addLps (addLps ({ tabk with hyp := hy10 }) 4 fi4 [lf54, lf56]) 19 fi19 [lf55]) 13 fi13 [lf57, lf58]
theorem run10 (e : Nat) : Go.AX.okB (call tab10 9000 4 [.sr 1, .x 0, .es] ⟨addR 1 [.r 2000000 26 4 true] (H0 e ), 1 + List.length (α := Ent) [.r 2000000 26 4 true], 0, 0⟩) = true := by kernel_rfl
def nu10 (blk_z : Nat) (base_z : Nat) (es_z : Nat) (z : List (Int × Int × LB × Int)) (mo : LB) (ad_at_ : Option Addr) (cp_at_ : Nat) : List Value := [St' mo,
  St' ([] : LB),
  .int .i64 ((z.length : Int)),
  .int .i64 ((mo.length : Int)),
  St' (rbS z),
  .int .u8 (bt mo 0),
  St' ((rbS z) ++ mo),
  .int .u8 (bt ((rbS z) ++ mo) 0),
  .int .i64 (((rbS z).length : Int) + (mo.length : Int)),
  St' ((cU ((rbS z) ++ mo)).2.1),
  .int .i64 (0),
  .int .i64 ((ndS ((cU ((rbS z) ++ mo)).2.1))),
  St' ((cU ((rbS z) ++ mo)).2.1),
  .int .i64 (((cU ((rbS z) ++ mo)).1.length : Int)),
  .int .i64 ((z.length : Int)),
  .int .i64 (((cU ((rbS z) ++ mo)).1.length : Int)),
  .int .i64 ((z.length : Int)),
  .int .i64 (((cU ((rbS z) ++ mo)).2.1.length : Int)),
  .int .i64 (((cU ((rbS z) ++ mo)).2.1.length : Int))]
def ro10 (blk_z : Nat) (base_z : Nat) (es_z : Nat) (z : List (Int × Int × LB × Int)) (mo : LB) (ad_at_ : Option Addr) (cp_at_ : Nat) : List Value := [rwG reC z,
  rwS ([] : List LB),
  rwG reC z,
  rwG reC ((cU ((rbS z) ++ mo)).1),
  rwG reC ((cU ((rbS z) ++ mo)).1),
  rwG reC ((cU ((rbS z) ++ mo)).1),
  rwG reC z,
  rwG reC ((cU ((rbS z) ++ mo)).1),
  rwG reC z]
theorem on10 (blk_z : Nat) (base_z : Nat) (es_z : Nat) (z : List (Int × Int × LB × Int)) (mo : LB) (ad_at_ : Option Addr) (cp_at_ : Nat) : ∀ j, (nuL (nu10 blk_z base_z es_z z mo ad_at_ cp_at_) j).oneCell' = true := nuL_one (l := nu10 blk_z base_z es_z z mo ad_at_ cp_at_) rfl
theorem path10 (blk_z : Nat) (base_z : Nat) (es_z : Nat) (z : List (Int × Int × LB × Int)) (mo : LB) (ad_at_ : Option Addr) (cp_at_ : Nat) (b0 : 1 ≤ z.length) (b1 : ∀ n, n ∈ z → reB n) (b2 : z.length ≤ 9223372036854775807) (b3 : mo.length ≤ 9223372036854775807) (h0 : ¬ (10 < (z.length : Int))) (h1 : ¬ (7 < (mo.length : Int))) (h2 : okR 300 z) (h3 : 0 < (mo.length : Int)) (h4 : bt mo 0 = 1) (w : World) (hl : laidE w) (w_z : InRow w 4 (z.flatMap reC) blk_z base_z z.length es_z) (g_z : ∀ e, (H0 e ).get blk_z = none) : CwR 4 #[.slice (some ⟨blk_z, base_z, none⟩) z.length es_z, St' mo, .slice ad_at_ 0 cp_at_] w (.bool true) := by
  have hn0 : ([] : LB).length = 0 := rfl
  have hrl := rbS_len (b := 300) (by omega) z (by assumption)
  have := bt_lo mo 0; have := bt_hi mo 0
  have := bt_lo ((rbS z) ++ mo) 0; have := bt_hi ((rbS z) ++ mo) 0
  obtain ⟨hX1, hX2, hX3, hX4⟩ := fX (z := z) (m := mo) (by assumption) (by omega) (by omega)
  have hX5 := congrArg List.length hX1; have hX6 := congrArg List.length hX2; have hrp := rbS_pos z (by assumption); have hXl : (rbS z ++ mo).length = (rbS z).length + mo.length := List.length_append
  have hSl : (((rbS z) ++ mo)).length ≤ 10000 := by first | omega | (simp only [List.length_append]; omega)
  have ho : ∀ k r, (k, r) ∈ hy10 → HOk (cx (nuX (nu10 blk_z base_z es_z z mo ad_at_ cp_at_) (rX (ro10 blk_z base_z es_z z mo ad_at_ cp_at_) (fun _ => .bool true))) (nuX_one (on10 blk_z base_z es_z z mo ad_at_ cp_at_)) 1 laidE laidE_stab) k r := by
    unfold hy10
    exact hc (kBytesB (bs := ([] : LB)) .nil (denX rfl)) <|
     hc (kRn (denX rfl)) <|
     hc (kRlG reC_len (isX rfl) (denX rfl) (by first | omega | (simp <;> omega))) <|
     hc (gtcF rfl (by omega)) <|
     hc (lnV rfl rfl (by omega)) <|
     hc (gtcF rfl (by omega)) <|
     hc (gtcT rfl (by omega)) <|
     hc (ixC rfl rfl (by omega)) <|
     hc (necF rfl (by omega)) <|
     hc (kCat (isX rfl) (isX rfl) (denX rfl) (by first | rfl | (simp; done)) (by omega)) <|
     hc (kByt (i := 0) (isX rfl) (isZ (m := 0) rfl) (denX rfl) rfl (by first | omega | (simp <;> omega)) rfl) <|
     hc (kFit (isX rfl) (by first | omega | (simp <;> omega))) <|
     hc (lnV rfl rfl (by first | omega | (simp <;> omega))) <|
     hc (ltcF rfl (by omega)) <|
     hc (kFit (isX rfl) (by first | omega | (simp <;> omega))) <|
     hc (hokNds (isX rfl) (denX rfl) (by omega)) <|
     hc (kRlG reC_len (isX rfl) (denX rfl) (by first | omega | (simp <;> omega))) <|
     hc (kRlG reC_len (isX rfl) (denX rfl) (by first | omega | (simp <;> omega))) <|
     hc (kNeI (isX rfl) (isX rfl) (neF (by omega))) <|
     hc (kRlG reC_len (isX rfl) (denX rfl) (by first | omega | (simp <;> omega))) <|
     hc (kRlG reC_len (isX rfl) (denX rfl) (by first | omega | (simp <;> omega))) <|
     hc (kNeI (isX rfl) (isX rfl) (neF (by omega))) <|
     hc (lnV rfl rfl (by omega)) <|
     hc (eqXT rfl rfl (by omega)) <|
     hc (lnV rfl rfl (by omega)) <|
     hc (eqXT rfl rfl (by omega)) <|
     hnil
  exact runPR (tb := tab10) (AllOk.lp1 (AllOk.lp1 (AllOk.lp1 ((tabkOk (nuX (nu10 blk_z base_z es_z z mo ad_at_ cp_at_) (rX (ro10 blk_z base_z es_z z mo ad_at_ cp_at_) (fun _ => .bool true))) (nuX_one (on10 blk_z base_z es_z z mo ad_at_ cp_at_))).hyps ho) (by omega) fi4_at fi4_body (lfCons (lpKnown rfl ⟨0, keyLa, lfOkLa_0 (l := lf54) (h := lh54) z (by assumption) (0, (0 : Int), ([] : LB)) (mkILa z 0 (0 : Int) ([] : LB) ⟨by omega, by omega, by omega, by assumption, by simp, rfl, (fun r hr => nomatch hr), by omega⟩) rfl (by kernel_rfl) (th0 := [(0, .i .i64 (.ofNat 0)), (1, .s 0 0), (2000000, .x 2000000)]) (sg0 := []) (fun X => thCons (show Is _ (.i .i64 (.ofNat 0)) (.int .i64 ((0 : Int))) from isTo (v := .int .i64 0) (isI _ _) (by first | rfl | (congr 1; omega))) (thCons (show Is _ (.s 0 0) (St' ([] : LB)) from isTo (v := St' ([] : LB)) (isSx (l := ([] : LB)) 0 0 rfl) (by first | rfl | (simp; done))) (thXv (v := rwG reC z) rfl rfl (thNil)))) (by kernel_rfl) (thx := [(4, .x 0), (2000002, .x 2000000)]) (thXv (v := St' (rbS z)) rfl rfl (thXv (v := rwG reC z) rfl rfl (thNil))) (by kernel_rfl)⟩) (lfCons (lpKnown rfl ⟨1, keyFd0, lfOkFd0_2 (l := lf56) (h := lh56) ((rbS z) ++ mo) (by omega) (0, ((rbS z) ++ mo), [], (0 : Int), (0 : Int)) (mkIFd0 ((rbS z) ++ mo) 0 ((rbS z) ++ mo) [] (0 : Int) (0 : Int) ⟨rfl, hSl, hX4, by omega, by simp, (by rw [cU_nil]; exact nd_nil (by omega)), fun _ => rfl, fun h => by omega, fun h => absurd rfl h, fun h => by omega, by omega⟩) rfl (by kernel_rfl) (th0 := [(0, .x 6), (1, .i .i64 (.ofNat 0))]) (sg0 := [(302, 21)]) (fun X => thXv (v := St' ((rbS z) ++ mo)) rfl rfl (thCons (show Is _ (.i .i64 (.ofNat 0)) (.int .i64 ((0 : Int))) from isTo (v := .int .i64 0) (isI _ _) (by first | rfl | (congr 1; omega))) (thNil))) (by kernel_rfl) (thx := [(12, .x 0), (2000004, .x 2000000)]) (thXv (v := St' ((cU ((rbS z) ++ mo)).2.1)) rfl rfl (thXv (v := rwG reC ((cU ((rbS z) ++ mo)).1)) rfl rfl (thNil))) (by kernel_rfl)⟩) lfNil))) (by omega) (get_lps2 (by omega) (by omega) fi19_at) fi19_body (lfCons (lpKnown rfl ⟨0, keyCu0, lfOkCu0_1 (l := lf55) (h := lh55) ((cU ((rbS z) ++ mo)).1) ((cU ((rbS z) ++ mo)).2.1) ((cU ((rbS z) ++ mo)).2.2) 0 hX3 (by omega) (0, ((rbS z) ++ mo), []) (mkICu0 ((cU ((rbS z) ++ mo)).1) ((cU ((rbS z) ++ mo)).2.1) ((cU ((rbS z) ++ mo)).2.2) 0 0 ((rbS z) ++ mo) [] ⟨by omega, rfl, rfl, rfl, by simp only [List.length_nil]; omega, fun _ => rfl, fun h => by omega, by omega⟩) rfl (by kernel_rfl) (th0 := [(0, .x 6), (1, .i .i64 (.ofNat 0))]) (sg0 := [(121, 22)]) (fun X => thXv (v := St' ((rbS z) ++ mo)) rfl rfl (thCons (show Is _ (.i .i64 (.ofNat 0)) (.int .i64 (0)) from isTo (v := .int .i64 0) (isI _ _) (by first | rfl | (congr 1; omega))) (thNil))) (by kernel_rfl) (thx := [(9, .x 0), (10, .x 1), (2000003, .x 2000000)]) (thXv (v := St' ((cU ((rbS z) ++ mo)).2.1)) rfl rfl (thXv (v := .int .i64 (0)) rfl rfl (thXv (v := rwG reC ((cU ((rbS z) ++ mo)).1)) rfl rfl (thNil)))) (by kernel_rfl)⟩) lfNil)) (by omega) (get_lps2 (by omega) (by omega) (get_lps2 (by omega) (by omega) fi13_at)) fi13_body (lfCons (lpKnown rfl ⟨0, keySa0, lfOkSa0_0 (l := lf57) (h := lh57) z (0, (0 : Int)) (mkISa0 z 0 (0 : Int) ⟨by omega, by omega, by omega, by assumption, by omega⟩) rfl (by kernel_rfl) (th0 := [(0, .i .i64 (.ofNat 0)), (2000000, .x 2000003), (2000001, .x 2000002)]) (sg0 := []) (fun X => thCons (show Is _ (.i .i64 (.ofNat 0)) (.int .i64 ((0 : Int))) from isTo (v := .int .i64 0) (isI _ _) (by first | rfl | (congr 1; omega))) (thXe (v := rwG reC ((cU ((rbS z) ++ mo)).1)) (u := rwG reC z) rfl rfl (congrArg (rwG reC) hX1) (thXv (v := rwG reC z) rfl rfl (thNil)))) (by kernel_rfl) (thx := [(2000005, .x 2000000), (2000006, .x 2000001)]) (thXe (v := rwG reC z) (u := rwG reC ((cU ((rbS z) ++ mo)).1)) rfl rfl ((congrArg (rwG reC) hX1).symm) (thXv (v := rwG reC z) rfl rfl (thNil))) (by kernel_rfl)⟩) (lfCons (lpKnown rfl ⟨0, keySa1, lfOkSa1_0 (l := lf58) (h := lh58) z (0, (0 : Int)) (mkISa1 z 0 (0 : Int) ⟨by omega, by omega, by omega, by assumption, by omega⟩) rfl (by kernel_rfl) (th0 := [(0, .i .i64 (.ofNat 0)), (2000000, .x 2000004), (2000001, .x 2000006)]) (sg0 := []) (fun X => thCons (show Is _ (.i .i64 (.ofNat 0)) (.int .i64 ((0 : Int))) from isTo (v := .int .i64 0) (isI _ _) (by first | rfl | (congr 1; omega))) (thXe (v := rwG reC ((cU ((rbS z) ++ mo)).1)) (u := rwG reC z) rfl rfl (congrArg (rwG reC) hX1) (thXv (v := rwG reC z) rfl rfl (thNil)))) (by kernel_rfl) (thx := [(2000007, .x 2000000), (2000008, .x 2000001)]) (thXe (v := rwG reC z) (u := rwG reC ((cU ((rbS z) ++ mo)).1)) rfl rfl ((congrArg (rwG reC) hX1).symm) (thXv (v := rwG reC z) rfl rfl (thNil))) (by kernel_rfl)⟩) lfNil))) rfl (get_lps2 (by omega) (by omega) (get_lps2 (by omega) (by omega) (get_lps (by omega)))) fiB4 [.r 2000000 26 4 true] [⟨blk_z, base_z, z.length, es_z⟩] (fun e => run10 e ) (args := [.slice (some ⟨blk_z, base_z, none⟩) z.length es_z, St' mo, .slice ad_at_ 0 cp_at_]) ⟨_, _, rfl, relSrN (by decide) rfl w_z.room, ⟨_, _, rfl, rfl, ⟨_, _, rfl, ⟨_, _, rfl⟩, rfl⟩⟩⟩ w hl rfl (by decide) (fun e => (argsCons (w_z.arg (g_z e ) rfl) argsNil)) rfl
def hy11 : LK := [(.bytes [], .x 1),
  (.rn, .x 2000002),
  (.rl (.x 2000000) 4, .x 2),
  (.bin .gtr (.x 2) (.i .i64 (.ofNat 10)), .b false),
  (.len (.x 0), .x 3),
  (.bin .gtr (.x 3) (.i .i64 (.ofNat 7)), .b false),
  (.bin .gtr (.x 3) (.i .i64 (.ofNat 0)), .b false),
  (.bin .add (.x 4) (.x 0), .x 5),
  (.byt (.x 5) (.i .i64 (.ofNat 0)), .x 6),
  (.fit (.x 5), .b true),
  (.len (.x 5), .x 7),
  (.bin .lss (.x 7) (.i .i64 (.ofNat 0)), .b false),
  (.fit (.x 8), .b true),
  (.call 20 [.x 8], .x 10),
  (.rl (.x 2000004) 4, .x 12),
  (.rl (.x 2000003) 4, .x 13),
  (.bin .neq (.x 12) (.x 13), .b false),
  (.rl (.x 2000006) 4, .x 14),
  (.rl (.x 2000008) 4, .x 15),
  (.bin .neq (.x 14) (.x 15), .b false),
  (.len (.x 8), .x 16),
  (.bin .eql (.x 16) (.x 3), .b true),
  (.len (.x 11), .x 17),
  (.bin .eql (.x 17) (.x 3), .b true)]
def lh64 : LH := ⟨1, 20, 20, [(1, .r 2000000 26 4 true)], [(1, .r 2000003 26 4 true)]⟩
def lf64 : LF := ⟨7, 137, [(0, .sr 1), (7, .s 0 0), (8, .i .i64 (.ofNat 0))], [1, 2], (.exit 0), [(0, .sr 1), (7, .x 4)], some lh64⟩
def lh65 : LH := ⟨1, 120, 180, [(20, .b ⟨53, .l [.i .i64 (.ofNat 65535), .sy 22, .i .i64 (.ofNat 0), .b false], 0, 0, 0, false, false⟩), (22, .t 5 5)], [(20, .b ⟨53, .l [.i .i64 (.ofNat 65535), .sy 121, .x 9, .b false], 0, 0, 0, false, false⟩), (120, .r 2000004 26 4 false)]⟩
def lf65 : LF := ⟨2, 38, [(0, .p 20 0), (1, .x 5), (7, .nils)], [], .ret, [(4, .sr 120), (5, .x 8), (6, .ni)], some lh65⟩
def lh66 : LH := ⟨1, 300, 420, [(2, .r 2000001 5 1 true), (21, .b ⟨53, .l [.i .i64 (.ofNat 65535), .nils, .i .i64 (.ofNat 0), .b false], 0, 0, 0, false, false⟩)], [(2, .r 2000005 5 1 true), (302, .b ⟨53, .l [.i .i64 (.ofNat 65535), .sy 300, .und, .b false], 0, 0, 0, false, false⟩), (300, .t 11 5), (301, .r 2000006 26 4 false)]⟩
def lf66 : LF := ⟨19, 137, [(2, .sr 2), (7, .x 5), (10, .p 21 0), (13, .nils), (14, .i .i64 (.ofNat 0))], [0, 1, 9, 11, 12], (.exit 2), [(10, .p 302 0), (13, .sr 301)], some lh66⟩
def lh67 : LH := ⟨1, 420, 420, [(120, .r 2000004 26 4 false), (1, .r 2000003 26 4 true)], [(120, .r 2000007 26 4 false), (1, .r 2000008 26 4 true)]⟩
def lf67 : LF := ⟨4, 26, [(0, .sr 120), (1, .sr 1), (5, .i .i64 (.ofNat 0))], [], (.exit 0), [], some lh67⟩
def lh68 : LH := ⟨1, 420, 420, [(301, .r 2000006 26 4 false), (1, .r 2000008 26 4 true)], [(301, .r 2000009 26 4 false), (1, .r 2000010 26 4 true)]⟩
def lf68 : LF := ⟨4, 26, [(0, .sr 301), (1, .sr 1), (5, .i .i64 (.ofNat 0))], [], (.exit 0), [], some lh68⟩
noncomputable def tab11 : Tab := addLps (addLps (addLps ({ tabk with hyp := hy11 }) 4 fi4 [lf64, lf66]) 19 fi19 [lf65]) 13 fi13 [lf67, lf68]
theorem run11 (e : Nat) : Go.AX.okB (call tab11 9000 4 [.sr 1, .x 0, .sr 2] ⟨addR 1 [.r 2000000 26 4 true, .r 2000001 5 1 true] (H0 e ), 1 + List.length (α := Ent) [.r 2000000 26 4 true, .r 2000001 5 1 true], 0, 0⟩) = true := by kernel_rfl
def nu11 (blk_z : Nat) (base_z : Nat) (es_z : Nat) (z : List (Int × Int × LB × Int)) (mo : LB) (blk_at_ : Nat) (base_at_ : Nat) (es_at_ : Nat) (at_ : List Int) : List Value := [St' mo,
  St' ([] : LB),
  .int .i64 ((z.length : Int)),
  .int .i64 ((mo.length : Int)),
  St' (rbS z),
  St' ((rbS z) ++ mo),
  .int .u8 (bt ((rbS z) ++ mo) 0),
  .int .i64 (((rbS z).length : Int) + (mo.length : Int)),
  St' ((cU ((rbS z) ++ mo)).2.1),
  .int .i64 (0),
  .int .i64 ((ndS ((cU ((rbS z) ++ mo)).2.1))),
  St' ((cU ((rbS z) ++ mo)).2.1),
  .int .i64 (((cU ((rbS z) ++ mo)).1.length : Int)),
  .int .i64 ((z.length : Int)),
  .int .i64 (((cU ((rbS z) ++ mo)).1.length : Int)),
  .int .i64 ((z.length : Int)),
  .int .i64 (((cU ((rbS z) ++ mo)).2.1.length : Int)),
  .int .i64 (((cU ((rbS z) ++ mo)).2.1.length : Int))]
def ro11 (blk_z : Nat) (base_z : Nat) (es_z : Nat) (z : List (Int × Int × LB × Int)) (mo : LB) (blk_at_ : Nat) (base_at_ : Nat) (es_at_ : Nat) (at_ : List Int) : List Value := [rwG reC z,
  rwI .u8 at_,
  rwS ([] : List LB),
  rwG reC z,
  rwG reC ((cU ((rbS z) ++ mo)).1),
  rwI .u8 at_,
  rwG reC ((cU ((rbS z) ++ mo)).1),
  rwG reC ((cU ((rbS z) ++ mo)).1),
  rwG reC z,
  rwG reC ((cU ((rbS z) ++ mo)).1),
  rwG reC z]
theorem on11 (blk_z : Nat) (base_z : Nat) (es_z : Nat) (z : List (Int × Int × LB × Int)) (mo : LB) (blk_at_ : Nat) (base_at_ : Nat) (es_at_ : Nat) (at_ : List Int) : ∀ j, (nuL (nu11 blk_z base_z es_z z mo blk_at_ base_at_ es_at_ at_) j).oneCell' = true := nuL_one (l := nu11 blk_z base_z es_z z mo blk_at_ base_at_ es_at_ at_) rfl
theorem path11 (blk_z : Nat) (base_z : Nat) (es_z : Nat) (z : List (Int × Int × LB × Int)) (mo : LB) (blk_at_ : Nat) (base_at_ : Nat) (es_at_ : Nat) (at_ : List Int) (b0 : 1 ≤ z.length) (b1 : ∀ n, n ∈ z → reB n) (b2 : z.length ≤ 9223372036854775807) (b3 : mo.length ≤ 9223372036854775807) (b4 : 1 ≤ at_.length) (b5 : ∀ n, n ∈ at_ → 0 ≤ n ∧ n ≤ 255) (b6 : at_.length ≤ 9223372036854775807) (h0 : ¬ (10 < (z.length : Int))) (h1 : ¬ (7 < (mo.length : Int))) (h2 : okR 300 z) (h3 : ¬ (0 < (mo.length : Int))) (w : World) (hl : laidE w) (w_z : InRow w 4 (z.flatMap reC) blk_z base_z z.length es_z) (g_z : ∀ e, (H0 e ).get blk_z = none) (w_at_ : InRow w 1 (at_.map (Value.int .u8)) blk_at_ base_at_ at_.length es_at_) (g_at_ : ∀ e, (H0 e ).get blk_at_ = none) : CwR 4 #[.slice (some ⟨blk_z, base_z, none⟩) z.length es_z, St' mo, .slice (some ⟨blk_at_, base_at_, none⟩) at_.length es_at_] w (.bool true) := by
  have hn0 : ([] : LB).length = 0 := rfl
  have hrl := rbS_len (b := 300) (by omega) z (by assumption)
  have := bt_lo ((rbS z) ++ mo) 0; have := bt_hi ((rbS z) ++ mo) 0
  obtain ⟨hX1, hX2, hX3, hX4⟩ := fX (z := z) (m := mo) (by assumption) (by omega) (by omega)
  have hX5 := congrArg List.length hX1; have hX6 := congrArg List.length hX2; have hrp := rbS_pos z (by assumption); have hXl : (rbS z ++ mo).length = (rbS z).length + mo.length := List.length_append
  have hSl : (((rbS z) ++ mo)).length ≤ 10000 := by first | omega | (simp only [List.length_append]; omega)
  have ho : ∀ k r, (k, r) ∈ hy11 → HOk (cx (nuX (nu11 blk_z base_z es_z z mo blk_at_ base_at_ es_at_ at_) (rX (ro11 blk_z base_z es_z z mo blk_at_ base_at_ es_at_ at_) (fun _ => .bool true))) (nuX_one (on11 blk_z base_z es_z z mo blk_at_ base_at_ es_at_ at_)) 1 laidE laidE_stab) k r := by
    unfold hy11
    exact hc (kBytesB (bs := ([] : LB)) .nil (denX rfl)) <|
     hc (kRn (denX rfl)) <|
     hc (kRlG reC_len (isX rfl) (denX rfl) (by first | omega | (simp <;> omega))) <|
     hc (gtcF rfl (by omega)) <|
     hc (lnV rfl rfl (by omega)) <|
     hc (gtcF rfl (by omega)) <|
     hc (gtcF rfl (by omega)) <|
     hc (kCat (isX rfl) (isX rfl) (denX rfl) (by first | rfl | (simp; done)) (by omega)) <|
     hc (kByt (i := 0) (isX rfl) (isZ (m := 0) rfl) (denX rfl) rfl (by first | omega | (simp <;> omega)) rfl) <|
     hc (kFit (isX rfl) (by first | omega | (simp <;> omega))) <|
     hc (lnV rfl rfl (by first | omega | (simp <;> omega))) <|
     hc (ltcF rfl (by omega)) <|
     hc (kFit (isX rfl) (by first | omega | (simp <;> omega))) <|
     hc (hokNds (isX rfl) (denX rfl) (by omega)) <|
     hc (kRlG reC_len (isX rfl) (denX rfl) (by first | omega | (simp <;> omega))) <|
     hc (kRlG reC_len (isX rfl) (denX rfl) (by first | omega | (simp <;> omega))) <|
     hc (kNeI (isX rfl) (isX rfl) (neF (by omega))) <|
     hc (kRlG reC_len (isX rfl) (denX rfl) (by first | omega | (simp <;> omega))) <|
     hc (kRlG reC_len (isX rfl) (denX rfl) (by first | omega | (simp <;> omega))) <|
     hc (kNeI (isX rfl) (isX rfl) (neF (by omega))) <|
     hc (lnV rfl rfl (by omega)) <|
     hc (eqXT rfl rfl (by omega)) <|
     hc (lnV rfl rfl (by omega)) <|
     hc (eqXT rfl rfl (by omega)) <|
     hnil
  exact runPR (tb := tab11) (AllOk.lp1 (AllOk.lp1 (AllOk.lp1 ((tabkOk (nuX (nu11 blk_z base_z es_z z mo blk_at_ base_at_ es_at_ at_) (rX (ro11 blk_z base_z es_z z mo blk_at_ base_at_ es_at_ at_) (fun _ => .bool true))) (nuX_one (on11 blk_z base_z es_z z mo blk_at_ base_at_ es_at_ at_))).hyps ho) (by omega) fi4_at fi4_body (lfCons (lpKnown rfl ⟨0, keyLa, lfOkLa_0 (l := lf64) (h := lh64) z (by assumption) (0, (0 : Int), ([] : LB)) (mkILa z 0 (0 : Int) ([] : LB) ⟨by omega, by omega, by omega, by assumption, by simp, rfl, (fun r hr => nomatch hr), by omega⟩) rfl (by kernel_rfl) (th0 := [(0, .i .i64 (.ofNat 0)), (1, .s 0 0), (2000000, .x 2000000)]) (sg0 := []) (fun X => thCons (show Is _ (.i .i64 (.ofNat 0)) (.int .i64 ((0 : Int))) from isTo (v := .int .i64 0) (isI _ _) (by first | rfl | (congr 1; omega))) (thCons (show Is _ (.s 0 0) (St' ([] : LB)) from isTo (v := St' ([] : LB)) (isSx (l := ([] : LB)) 0 0 rfl) (by first | rfl | (simp; done))) (thXv (v := rwG reC z) rfl rfl (thNil)))) (by kernel_rfl) (thx := [(4, .x 0), (2000003, .x 2000000)]) (thXv (v := St' (rbS z)) rfl rfl (thXv (v := rwG reC z) rfl rfl (thNil))) (by kernel_rfl)⟩) (lfCons (lpKnown rfl ⟨1, keyFd1, lfOkFd1_2 (l := lf66) (h := lh66) ((rbS z) ++ mo) at_ (by omega) (0, ((rbS z) ++ mo), [], (0 : Int), (0 : Int)) (mkIFd1 ((rbS z) ++ mo) at_ 0 ((rbS z) ++ mo) [] (0 : Int) (0 : Int) ⟨rfl, hSl, hX4, by omega, by simp, (by rw [cU_nil]; exact nd_nil (by omega)), fun _ => rfl, fun h => by omega, fun h => absurd rfl h, fun h => by omega, by assumption, by omega, by omega, by omega⟩) rfl (by kernel_rfl) (th0 := [(0, .x 5), (1, .i .i64 (.ofNat 0)), (2000000, .x 2000001)]) (sg0 := [(302, 21)]) (fun X => thXv (v := St' ((rbS z) ++ mo)) rfl rfl (thCons (show Is _ (.i .i64 (.ofNat 0)) (.int .i64 ((0 : Int))) from isTo (v := .int .i64 0) (isI _ _) (by first | rfl | (congr 1; omega))) (thXv (v := rwI .u8 at_) rfl rfl (thNil)))) (by kernel_rfl) (thx := [(11, .x 0), (2000005, .x 2000000), (2000006, .x 2000001)]) (thXv (v := St' ((cU ((rbS z) ++ mo)).2.1)) rfl rfl (thXv (v := rwI .u8 at_) rfl rfl (thXv (v := rwG reC ((cU ((rbS z) ++ mo)).1)) rfl rfl (thNil)))) (by kernel_rfl)⟩) lfNil))) (by omega) (get_lps2 (by omega) (by omega) fi19_at) fi19_body (lfCons (lpKnown rfl ⟨0, keyCu0, lfOkCu0_1 (l := lf65) (h := lh65) ((cU ((rbS z) ++ mo)).1) ((cU ((rbS z) ++ mo)).2.1) ((cU ((rbS z) ++ mo)).2.2) 0 hX3 (by omega) (0, ((rbS z) ++ mo), []) (mkICu0 ((cU ((rbS z) ++ mo)).1) ((cU ((rbS z) ++ mo)).2.1) ((cU ((rbS z) ++ mo)).2.2) 0 0 ((rbS z) ++ mo) [] ⟨by omega, rfl, rfl, rfl, by simp only [List.length_nil]; omega, fun _ => rfl, fun h => by omega, by omega⟩) rfl (by kernel_rfl) (th0 := [(0, .x 5), (1, .i .i64 (.ofNat 0))]) (sg0 := [(121, 22)]) (fun X => thXv (v := St' ((rbS z) ++ mo)) rfl rfl (thCons (show Is _ (.i .i64 (.ofNat 0)) (.int .i64 (0)) from isTo (v := .int .i64 0) (isI _ _) (by first | rfl | (congr 1; omega))) (thNil))) (by kernel_rfl) (thx := [(8, .x 0), (9, .x 1), (2000004, .x 2000000)]) (thXv (v := St' ((cU ((rbS z) ++ mo)).2.1)) rfl rfl (thXv (v := .int .i64 (0)) rfl rfl (thXv (v := rwG reC ((cU ((rbS z) ++ mo)).1)) rfl rfl (thNil)))) (by kernel_rfl)⟩) lfNil)) (by omega) (get_lps2 (by omega) (by omega) (get_lps2 (by omega) (by omega) fi13_at)) fi13_body (lfCons (lpKnown rfl ⟨0, keySa0, lfOkSa0_0 (l := lf67) (h := lh67) z (0, (0 : Int)) (mkISa0 z 0 (0 : Int) ⟨by omega, by omega, by omega, by assumption, by omega⟩) rfl (by kernel_rfl) (th0 := [(0, .i .i64 (.ofNat 0)), (2000000, .x 2000004), (2000001, .x 2000003)]) (sg0 := []) (fun X => thCons (show Is _ (.i .i64 (.ofNat 0)) (.int .i64 ((0 : Int))) from isTo (v := .int .i64 0) (isI _ _) (by first | rfl | (congr 1; omega))) (thXe (v := rwG reC ((cU ((rbS z) ++ mo)).1)) (u := rwG reC z) rfl rfl (congrArg (rwG reC) hX1) (thXv (v := rwG reC z) rfl rfl (thNil)))) (by kernel_rfl) (thx := [(2000007, .x 2000000), (2000008, .x 2000001)]) (thXe (v := rwG reC z) (u := rwG reC ((cU ((rbS z) ++ mo)).1)) rfl rfl ((congrArg (rwG reC) hX1).symm) (thXv (v := rwG reC z) rfl rfl (thNil))) (by kernel_rfl)⟩) (lfCons (lpKnown rfl ⟨0, keySa1, lfOkSa1_0 (l := lf68) (h := lh68) z (0, (0 : Int)) (mkISa1 z 0 (0 : Int) ⟨by omega, by omega, by omega, by assumption, by omega⟩) rfl (by kernel_rfl) (th0 := [(0, .i .i64 (.ofNat 0)), (2000000, .x 2000006), (2000001, .x 2000008)]) (sg0 := []) (fun X => thCons (show Is _ (.i .i64 (.ofNat 0)) (.int .i64 ((0 : Int))) from isTo (v := .int .i64 0) (isI _ _) (by first | rfl | (congr 1; omega))) (thXe (v := rwG reC ((cU ((rbS z) ++ mo)).1)) (u := rwG reC z) rfl rfl (congrArg (rwG reC) hX1) (thXv (v := rwG reC z) rfl rfl (thNil)))) (by kernel_rfl) (thx := [(2000009, .x 2000000), (2000010, .x 2000001)]) (thXe (v := rwG reC z) (u := rwG reC ((cU ((rbS z) ++ mo)).1)) rfl rfl ((congrArg (rwG reC) hX1).symm) (thXv (v := rwG reC z) rfl rfl (thNil))) (by kernel_rfl)⟩) lfNil))) rfl (get_lps2 (by omega) (by omega) (get_lps2 (by omega) (by omega) (get_lps (by omega)))) fiB4 [.r 2000000 26 4 true, .r 2000001 5 1 true] [⟨blk_z, base_z, z.length, es_z⟩, ⟨blk_at_, base_at_, at_.length, es_at_⟩] (fun e => run11 e ) (args := [.slice (some ⟨blk_z, base_z, none⟩) z.length es_z, St' mo, .slice (some ⟨blk_at_, base_at_, none⟩) at_.length es_at_]) ⟨_, _, rfl, relSrN (by decide) rfl w_z.room, ⟨_, _, rfl, rfl, ⟨_, _, rfl, relSrN (by decide) rfl w_at_.room, rfl⟩⟩⟩ w hl rfl (by decide) (fun e => (argsCons (w_z.arg (g_z e ) rfl) (argsCons (w_at_.arg (g_at_ e ) rfl) argsNil))) rfl
end Go.Proofs.YtlfmfmegnenohaaDoor.cutterCuts
