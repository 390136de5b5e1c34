/- A part of the proof: an interpreter of the model's own code on partly known states, and that what it answers is what the program answers. No condition of its own. -/
import Derived.Test.YtlfmfmegnenohaaDoorG1CutterStopsO7
set_option maxRecDepth 100000
set_option linter.unusedVariables false
set_option linter.unusedSimpArgs false
set_option maxHeartbeats 4000000
namespace Go.Proofs.YtlfmfmegnenohaaDoor.cutterStops
open Go Go.AX Go.Proofs Go.Proofs.YtlfmfmegnenohaaDoor
def hy18 : LK := [(.bytes [], .x 3),
  (.rn, .x 2000001),
  (.rl (.x 2000000) 4, .x 4),
  (.bin .gtr (.x 4) (.i .i64 (.ofNat 6)), .b false),
  (.len (.x 1), .x 5),
  (.bin .gtr (.x 5) (.i .i64 (.ofNat 100)), .b false),
  (.bin .rem (.x 0) (.i .u8 (.ofNat 3)), .x 7),
  (.tab [.s 1 7, .s 6 4311746049, .s 8 16777217] (.x 7), .s 8 16777217),
  (.tab [.i .i64 (.ofNat 13), .i .i64 (.ofNat 12), .i .i64 (.ofNat 10)] (.x 7), .i .i64 (.ofNat 10)),
  (.len (.x 6), .x 8),
  (.conv 3 (.x 2), .x 9),
  (.mm false (.x 8) (.x 9), .x 10),
  (.sub (.x 6) none (some (.x 10)), .x 11),
  (.byt (.x 11) (.i .i64 (.ofNat 0)), .x 12),
  (.fit (.x 11), .b true),
  (.len (.x 11), .x 13),
  (.bin .lss (.x 13) (.i .i64 (.ofNat 0)), .b false),
  (.fit (.x 14), .b true),
  (.call 20 [.x 14], .x 16),
  (.sub (.x 6) (some (.x 10)) none, .x 17),
  (.bin .add (.x 17) (.s 8 16777217), .x 18),
  (.bin .add (.x 18) (.x 1), .x 19),
  (.bin .add (.x 14) (.x 19), .x 20),
  (.fit (.x 20), .b true),
  (.len (.x 20), .x 21),
  (.bin .lss (.x 21) (.x 16), .b false),
  (.rl (.x 2000003) 4, .x 24),
  (.bin .gtr (.x 24) (.i .i64 (.ofNat 0)), .b true),
  (.rr (.x 2000001) (.x 2000003), .x 2000004),
  (.rf (.x 2000004) 4 40, .b true),
  (.rl (.x 2000004) 4, .x 25),
  (.rl (.x 2000002) 4, .x 26),
  (.bin .neq (.x 25) (.x 26), .b false)]
def lh333 : LH := ⟨1, 2, 2, [(1, .r 2000000 26 4 true)], [(1, .r 2000002 26 4 true)]⟩
def lf333 : LF := ⟨7, 125, [(0, .sr 1), (9, .s 0 0), (10, .i .i64 (.ofNat 0))], [1, 2, 3], (.exit 0), [(0, .sr 1), (9, .x 6)], some lh333⟩
def lh334 : LH := ⟨1, 20, 80, [(2, .b ⟨53, .l [.i .i64 (.ofNat 200), .sy 3, .i .i64 (.ofNat 0), .b false], 0, 0, 0, false, false⟩), (3, .t 11 5)], [(2, .b ⟨53, .l [.i .i64 (.ofNat 200), .sy 21, .x 15, .b false], 0, 0, 0, false, false⟩)]⟩
def lf334 : LF := ⟨2, 38, [(0, .p 2 0), (1, .x 11), (7, .nils)], [], .ret, [(4, .nils), (5, .x 14), (6, .ni)], some lh334⟩
def lh335 : LH := ⟨1, 120, 180, [(2, .b ⟨53, .l [.i .i64 (.ofNat 200), .sy 81, .x 16, .b false], 0, 0, 0, false, false⟩), (81, .t 20 5)], [(2, .b ⟨53, .l [.i .i64 (.ofNat 200), .sy 121, .x 23, .b false], 0, 0, 0, false, false⟩), (120, .r 2000003 26 4 false)]⟩
def lf335 : LF := ⟨2, 38, [(0, .p 2 0), (1, .x 20), (7, .nils)], [], .ret, [(4, .sr 120), (5, .x 22), (6, .ifc 68 (.ag [.i .i64 (.ofNat 10), .s 35 883751524516594027940889836758751821087985845510287451484159566615753519918736505186]))], some lh335⟩
def lh336 : LH := ⟨1, 183, 183, [(180, .r 2000004 26 4 false), (1, .r 2000002 26 4 true)], [(180, .r 2000005 26 4 false), (1, .r 2000006 26 4 true)]⟩
def lf336 : LF := ⟨4, 26, [(0, .sr 180), (1, .sr 1), (5, .i .i64 (.ofNat 0))], [], (.exit 0), [], some lh336⟩
noncomputable def tab18 : Tab := addLps (addLps (addLps ({ tabk with hyp := hy18 }) 3 fi3 [lf333]) 19 fi19 [lf334, lf335]) 13 fi13 [lf336]
theorem run18 (e : Nat) : Go.AX.okB (call tab18 9000 3 [.sr 1, .x 0, .x 1, .x 2] ⟨addR 1 [.r 2000000 26 4 true] (H0 e ), 1 + List.length (α := Ent) [.r 2000000 26 4 true], 0, 0⟩) = true := by kernel_rfl
def nu18 (blk_z : Nat) (base_z : Nat) (es_z : Nat) (z : List (Int × Int × LB × Int)) (kd : Int) (tl : LB) (at_ : Int) : List Value := [.int .u8 (kd),
  St' tl,
  .int .u8 (at_),
  St' ([] : LB),
  .int .i64 ((z.length : Int)),
  .int .i64 ((tl.length : Int)),
  St' (rbS z),
  .int .u8 (kd % 3),
  .int .i64 (((rbS z).length : Int)),
  .int .i64 (at_),
  .int .i64 ((kA z at_)),
  St' (tA z at_),
  .int .u8 (bt (tA z at_) 0),
  .int .i64 ((kA z at_)),
  St' ((cA z at_).2.1),
  .int .i64 (0),
  .int .i64 ((ndS ((cA z at_).2.1))),
  St' (dA z at_),
  St' ((dA z at_) ++ [u8 1, u8 0, u8 0, u8 1, u8 0, u8 0, u8 0, u8 0]),
  St' ((dA z at_) ++ ([u8 1, u8 0, u8 0, u8 1, u8 0, u8 0, u8 0, u8 0] ++ tl)),
  St' ((cA z at_).2.1 ++ ((dA z at_) ++ ([u8 1, u8 0, u8 0, u8 1, u8 0, u8 0, u8 0, u8 0] ++ tl))),
  .int .i64 (((cA z at_).2.1.length : Int) + ((rbS z).length : Int) + (tl.length : Int) + 8 - (kA z at_)),
  St' ((cB z at_ ([u8 1, u8 0, u8 0, u8 1, u8 0, u8 0, u8 0, u8 0] ++ tl)).2.1),
  .int .i64 ((ndS ((cA z at_).2.1))),
  .int .i64 (((cB z at_ ([u8 1, u8 0, u8 0, u8 1, u8 0, u8 0, u8 0, u8 0] ++ tl)).1.length : Int)),
  .int .i64 (((cB z at_ ([u8 1, u8 0, u8 0, u8 1, u8 0, u8 0, u8 0, u8 0] ++ tl)).1.length : Int)),
  .int .i64 ((z.length : Int))]
def ro18 (blk_z : Nat) (base_z : Nat) (es_z : Nat) (z : List (Int × Int × LB × Int)) (kd : Int) (tl : LB) (at_ : Int) : List Value := [rwG reC z,
  rwS ([] : List LB),
  rwG reC z,
  rwG reC ((cB z at_ ([u8 1, u8 0, u8 0, u8 1, u8 0, u8 0, u8 0, u8 0] ++ tl)).1),
  rwG reC ((cB z at_ ([u8 1, u8 0, u8 0, u8 1, u8 0, u8 0, u8 0, u8 0] ++ tl)).1),
  rwG reC ((cB z at_ ([u8 1, u8 0, u8 0, u8 1, u8 0, u8 0, u8 0, u8 0] ++ tl)).1),
  rwG reC z]
theorem on18 (blk_z : Nat) (base_z : Nat) (es_z : Nat) (z : List (Int × Int × LB × Int)) (kd : Int) (tl : LB) (at_ : Int) : ∀ j, (nuL (nu18 blk_z base_z es_z z kd tl at_) j).oneCell' = true := nuL_one (l := nu18 blk_z base_z es_z z kd tl at_) rfl
theorem path18 (blk_z : Nat) (base_z : Nat) (es_z : Nat) (z : List (Int × Int × LB × Int)) (kd : Int) (tl : LB) (at_ : Int) (b0 : ∀ n, n ∈ z → reB n) (b1 : z.length ≤ 9223372036854775807) (b2 : 0 ≤ kd) (b3 : kd ≤ 255) (b4 : tl.length ≤ 9223372036854775807) (b5 : 0 ≤ at_) (b6 : at_ ≤ 255) (h0 : ¬ (6 < (z.length : Int))) (h1 : ¬ (100 < (tl.length : Int))) (h2 : okR 100 z) (h3 : kd % 3 = 2) (h4 : ¬ ((kA z at_) = 0)) (h6 : (cA z at_).1.length = 0) (w : World) (hl : laidE w) (w_z : InRow w 4 (z.flatMap reC) blk_z base_z z.length es_z) (g_z : ∀ e, (H0 e ).get blk_z = none) : CwR 3 #[.slice (some ⟨blk_z, base_z, none⟩) z.length es_z, .int .u8 kd, St' tl, .int .u8 at_] w (.bool true) := by
  have hrl := rbS_len (b := 100) (by omega) z (by assumption)
  have hkA : kA z at_ = min ((rbS z).length : Int) at_ := rfl
  obtain ⟨hta, hda, hc1, hlr, hln⟩ := fA (z := z) (a := at_) (by assumption) (by omega)
  have := bt_lo (tA z at_) 0; have := bt_hi (tA z at_) 0
  obtain ⟨hc2, hnd, hq1, hq2, hzl⟩ := fB (z := z) (a := at_) (by assumption) (cs_b2 (t := tl)) (by decide)
  simp only [List.length_append, List.length_cons, List.length_nil] at hnd
  have hwl : (((cA z at_).2.1 ++ ((dA z at_) ++ ([u8 1, u8 0, u8 0, u8 1, u8 0, u8 0, u8 0, u8 0] ++ tl)))).length ≤ 100000 := by simp only [List.length_append, List.length_cons, List.length_nil]; omega
  have ho : ∀ k r, (k, r) ∈ hy18 → HOk (cx (nuX (nu18 blk_z base_z es_z z kd tl at_) (rX (ro18 blk_z base_z es_z z kd tl at_) (fun _ => .bool true))) (nuX_one (on18 blk_z base_z es_z z kd tl at_)) 1 laidE laidE_stab) k r := by
    unfold hy18
    exact hc (kBytesB (bs := ([] : LB)) .nil (denX rfl)) <|
     hc (kRn (denX rfl)) <|
     hc (kRlG reC_len (isX rfl) (denX rfl) (by first | omega | (simp <;> omega))) <|
     hc (gtcF rfl (by omega)) <|
     hc (lnV rfl rfl (by omega)) <|
     hc (gtcF rfl (by omega)) <|
     hc (kRem (isX rfl) (isZ (m := 3) rfl) (denX rfl) (by omega) (by omega) rfl) <|
     hc (kTabK (j := 2) (isX rfl) (by omega) rfl) <|
     hc (kTabK (j := 2) (isX rfl) (by omega) rfl) <|
     hc (lnV rfl rfl (by omega)) <|
     hc (kConvF (isX rfl) tu3 (denX rfl) (fI64 (by omega) (by omega))) <|
     hc (kMin (isX rfl) (isX rfl) (denX rfl) rfl) <|
     hc (kMid (P := 0) (Q := (kA z at_)) (isX rfl) (.inl ⟨rfl, rfl⟩) (.inr ⟨_, _, rfl, (isX rfl)⟩) (by omega) (by omega) (by omega) (denX (congrArg (fun l => St' l) takeE))) <|
     hc (kByt (i := 0) (isX rfl) (isZ (m := 0) rfl) (denX rfl) rfl (by first | omega | (simp <;> omega)) rfl) <|
     hc (kFit (isX rfl) (by first | omega | (simp <;> omega))) <|
     hc (lnV rfl rfl (by omega)) <|
     hc (ltcF rfl (by omega)) <|
     hc (kFit (isX rfl) (by first | omega | (simp <;> omega))) <|
     hc (hokNds (isX rfl) (denX rfl) (by omega)) <|
     hc (kMid (P := (kA z at_)) (Q := ((rbS z).length : Int)) (isX rfl) (.inr ⟨_, _, rfl, (isX rfl)⟩) (.inl ⟨rfl, rfl⟩) (by omega) (by omega) (by omega) (denX (congrArg (fun l => St' l) dropE))) <|
     hc (kCat (isX rfl) (isSx (l := [u8 1, u8 0, u8 0, u8 1, u8 0, u8 0, u8 0, u8 0]) 8 16777217 rfl) (denX rfl) (by first | rfl | (simp; done)) (by first | omega | (simp <;> omega))) <|
     hc (kCat (isX rfl) (isX rfl) (denX rfl) (by first | rfl | (simp; done)) (by first | omega | (simp <;> omega))) <|
     hc (kCat (isX rfl) (isX rfl) (denX rfl) (by first | rfl | (simp; done)) (by first | omega | (simp <;> omega))) <|
     hc (kFit (isX rfl) (by first | omega | (simp <;> omega))) <|
     hc (lnV rfl rfl (by first | omega | (simp <;> omega))) <|
     hc (ltF rfl rfl (by omega)) <|
     hc (kRlG reC_len (isX rfl) (denX rfl) (by first | omega | (simp <;> omega))) <|
     hc (gtcT rfl (by omega)) <|
     hc (kRr (f := reC) (l := []) (m := (cB z at_ ([u8 1, u8 0, u8 0, u8 1, u8 0, u8 0, u8 0, u8 0] ++ tl)).1) (isX rfl) (isX rfl) (denX rfl)) <|
     hc (kRfG reC_len (isX rfl) (by first | (rw [List.length_append]; omega) | (first | omega | (simp <;> omega))) (by first | (rw [List.length_append]; omega) | (first | omega | (simp <;> omega)))) <|
     hc (kRlG reC_len (isX rfl) (denX rfl) (by first | omega | (simp <;> omega))) <|
     hc (kRlG reC_len (isX rfl) (denX rfl) (by first | omega | (simp <;> omega))) <|
     hc (kNeI (isX rfl) (isX rfl) (neF (by omega))) <|
     hnil
  exact runPR (tb := tab18) (AllOk.lp1 (AllOk.lp1 (AllOk.lp1 ((tabkOk (nuX (nu18 blk_z base_z es_z z kd tl at_) (rX (ro18 blk_z base_z es_z z kd tl at_) (fun _ => .bool true))) (nuX_one (on18 blk_z base_z es_z z kd tl at_))).hyps ho) (by omega) fi3_at fi3_body (lfCons (lpKnown rfl ⟨0, keyLa, lfOkLa_0 (l := lf333) (h := lh333) z (by assumption) (0, (0 : Int), ([] : LB)) (mkILa z 0 (0 : Int) ([] : LB) ⟨by omega, by omega, by omega, by assumption, by simp, rfl, (fun r hr => nomatch hr), by omega⟩) rfl (by kernel_rfl) (th0 := [(0, .i .i64 (.ofNat 0)), (1, .s 0 0), (2000000, .x 2000000)]) (sg0 := []) (fun X => thCons (show Is _ (.i .i64 (.ofNat 0)) (.int .i64 ((0 : Int))) from isTo (v := .int .i64 0) (isI _ _) (by first | rfl | (congr 1; omega))) (thCons (show Is _ (.s 0 0) (St' ([] : LB)) from isTo (v := St' ([] : LB)) (isSx (l := ([] : LB)) 0 0 rfl) (by first | rfl | (simp; done))) (thXv (v := rwG reC z) rfl rfl (thNil)))) (by kernel_rfl) (thx := [(6, .x 0), (2000002, .x 2000000)]) (thXv (v := St' (rbS z)) rfl rfl (thXv (v := rwG reC z) rfl rfl (thNil))) (by kernel_rfl)⟩) lfNil)) (by omega) (get_lps2 (by omega) (by omega) fi19_at) fi19_body (lfCons (lpKnown rfl ⟨0, keyCu0, lfOkCu0_0 (l := lf334) (h := lh334) ((cA z at_).1) ((cA z at_).2.1) ((cA z at_).2.2) 0 hc1 (by omega) (0, (tA z at_), []) (mkICu0 ((cA z at_).1) ((cA z at_).2.1) ((cA z at_).2.2) 0 0 (tA z at_) [] ⟨by first | omega | (simp; done), rfl, rfl, rfl, by simp only [List.length_nil]; omega, fun _ => rfl, fun h => by omega, by omega⟩) rfl (by kernel_rfl) (th0 := [(0, .x 11), (1, .i .i64 (.ofNat 0))]) (sg0 := [(21, 3)]) (fun X => thXv (v := St' (tA z at_)) rfl rfl (thCons (show Is _ (.i .i64 (.ofNat 0)) (.int .i64 (0)) from isTo (v := .int .i64 0) (isI _ _) (by first | rfl | (congr 1; omega))) (thNil))) (by kernel_rfl) (thx := [(14, .x 0), (15, .x 1)]) (thXv (v := St' ((cA z at_).2.1)) rfl rfl (thXv (v := .int .i64 (0)) rfl rfl (thNil))) (by kernel_rfl)⟩) (lfCons (lpKnown rfl ⟨0, keyCu1, lfOkCu1_1 (l := lf335) (h := lh335) ((cB z at_ ([u8 1, u8 0, u8 0, u8 1, u8 0, u8 0, u8 0, u8 0] ++ tl)).1) ((cB z at_ ([u8 1, u8 0, u8 0, u8 1, u8 0, u8 0, u8 0, u8 0] ++ tl)).2.1) ((cB z at_ ([u8 1, u8 0, u8 0, u8 1, u8 0, u8 0, u8 0, u8 0] ++ tl)).2.2) (ndS ((cA z at_).2.1)) hc2.2 (by omega) (0, ((cA z at_).2.1 ++ ((dA z at_) ++ ([u8 1, u8 0, u8 0, u8 1, u8 0, u8 0, u8 0, u8 0] ++ tl))), []) (mkICu1 ((cB z at_ ([u8 1, u8 0, u8 0, u8 1, u8 0, u8 0, u8 0, u8 0] ++ tl)).1) ((cB z at_ ([u8 1, u8 0, u8 0, u8 1, u8 0, u8 0, u8 0, u8 0] ++ tl)).2.1) ((cB z at_ ([u8 1, u8 0, u8 0, u8 1, u8 0, u8 0, u8 0, u8 0] ++ tl)).2.2) (ndS ((cA z at_).2.1)) 0 ((cA z at_).2.1 ++ ((dA z at_) ++ ([u8 1, u8 0, u8 0, u8 1, u8 0, u8 0, u8 0, u8 0] ++ tl))) [] ⟨by first | omega | (simp; done), rfl, rfl, rfl, by simp only [List.length_nil]; omega, fun _ => rfl, fun h => by omega, by omega⟩) rfl (by kernel_rfl) (th0 := [(0, .x 20), (1, .x 16)]) (sg0 := [(121, 81)]) (fun X => thXv (v := St' ((cA z at_).2.1 ++ ((dA z at_) ++ ([u8 1, u8 0, u8 0, u8 1, u8 0, u8 0, u8 0, u8 0] ++ tl)))) rfl rfl (thXv (v := .int .i64 ((ndS ((cA z at_).2.1)))) rfl rfl (thNil))) (by kernel_rfl) (thx := [(22, .x 0), (23, .x 1), (2000003, .x 2000000)]) (thXv (v := St' ((cB z at_ ([u8 1, u8 0, u8 0, u8 1, u8 0, u8 0, u8 0, u8 0] ++ tl)).2.1)) rfl rfl (thXv (v := .int .i64 ((ndS ((cA z at_).2.1)))) rfl rfl (thXv (v := rwG reC ((cB z at_ ([u8 1, u8 0, u8 0, u8 1, u8 0, u8 0, u8 0, u8 0] ++ tl)).1)) rfl rfl (thNil)))) (by kernel_rfl)⟩) lfNil))) (by omega) (get_lps2 (by omega) (by omega) (get_lps2 (by omega) (by omega) fi13_at)) fi13_body (lfCons (lpKnown rfl ⟨0, keySa0, lfOkSa0_0 (l := lf336) (h := lh336) z (0, (0 : Int)) (mkISa0 z 0 (0 : Int) ⟨by omega, by omega, by omega, by assumption, by omega⟩) rfl (by kernel_rfl) (th0 := [(0, .i .i64 (.ofNat 0)), (2000000, .x 2000004), (2000001, .x 2000002)]) (sg0 := []) (fun X => thCons (show Is _ (.i .i64 (.ofNat 0)) (.int .i64 ((0 : Int))) from isTo (v := .int .i64 0) (isI _ _) (by first | rfl | (congr 1; omega))) (thXe (v := rwG reC ((cB z at_ ([u8 1, u8 0, u8 0, u8 1, u8 0, u8 0, u8 0, u8 0] ++ tl)).1)) (u := rwG reC z) rfl rfl (congrArg (rwG reC) ((cs_L hc2.1 (by omega)))) (thXv (v := rwG reC z) rfl rfl (thNil)))) (by kernel_rfl) (thx := [(2000005, .x 2000000), (2000006, .x 2000001)]) (thXe (v := rwG reC z) (u := rwG reC ((cB z at_ ([u8 1, u8 0, u8 0, u8 1, u8 0, u8 0, u8 0, u8 0] ++ tl)).1)) rfl rfl ((congrArg (rwG reC) ((cs_L hc2.1 (by omega)))).symm) (thXv (v := rwG reC z) rfl rfl (thNil))) (by kernel_rfl)⟩) lfNil)) rfl (get_lps2 (by omega) (by omega) (get_lps2 (by omega) (by omega) (get_lps (by omega)))) fiB3 [.r 2000000 26 4 true] [⟨blk_z, base_z, z.length, es_z⟩] (fun e => run18 e ) (args := [.slice (some ⟨blk_z, base_z, none⟩) z.length es_z, .int .u8 kd, St' tl, .int .u8 at_]) ⟨_, _, rfl, relSrN (by decide) rfl w_z.room, ⟨_, _, rfl, rfl, ⟨_, _, rfl, rfl, ⟨_, _, rfl, rfl, rfl⟩⟩⟩⟩ w hl rfl (by decide) (fun e => (argsCons (w_z.arg (g_z e ) rfl) argsNil)) rfl
def hy19 : LK := [(.bytes [], .x 3),
  (.rn, .x 2000001),
  (.rl (.x 2000000) 4, .x 4),
  (.bin .gtr (.x 4) (.i .i64 (.ofNat 6)), .b false),
  (.len (.x 1), .x 5),
  (.bin .gtr (.x 5) (.i .i64 (.ofNat 100)), .b false),
  (.bin .rem (.x 0) (.i .u8 (.ofNat 3)), .x 7),
  (.tab [.s 1 7, .s 6 4311746049, .s 8 16777217] (.x 7), .s 8 16777217),
  (.tab [.i .i64 (.ofNat 13), .i .i64 (.ofNat 12), .i .i64 (.ofNat 10)] (.x 7), .i .i64 (.ofNat 10)),
  (.len (.x 6), .x 8),
  (.conv 3 (.x 2), .x 9),
  (.mm false (.x 8) (.x 9), .x 10),
  (.sub (.x 6) none (some (.x 10)), .x 11),
  (.byt (.x 11) (.i .i64 (.ofNat 0)), .x 12),
  (.fit (.x 11), .b true),
  (.len (.x 11), .x 13),
  (.bin .lss (.x 13) (.i .i64 (.ofNat 0)), .b false),
  (.fit (.x 14), .b true),
  (.call 20 [.x 14], .x 16),
  (.sub (.x 6) (some (.x 10)) none, .x 17),
  (.bin .add (.x 17) (.s 8 16777217), .x 18),
  (.bin .add (.x 18) (.x 1), .x 19),
  (.bin .add (.x 14) (.x 19), .x 20),
  (.fit (.x 20), .b true),
  (.len (.x 20), .x 21),
  (.bin .lss (.x 21) (.x 16), .b false),
  (.rl (.x 2000003) 4, .x 24),
  (.bin .gtr (.x 24) (.i .i64 (.ofNat 0)), .b true),
  (.rr (.x 2000001) (.x 2000003), .x 2000004),
  (.rf (.x 2000004) 4 40, .b true),
  (.ra (.x 2000004) [], .x 2000005),
  (.rf (.x 2000005) 4 40, .b true),
  (.rl (.x 2000005) 4, .x 25),
  (.rl (.x 2000002) 4, .x 26),
  (.bin .neq (.x 25) (.x 26), .b false)]
def lh353 : LH := ⟨1, 2, 2, [(1, .r 2000000 26 4 true)], [(1, .r 2000002 26 4 true)]⟩
def lf353 : LF := ⟨7, 125, [(0, .sr 1), (9, .s 0 0), (10, .i .i64 (.ofNat 0))], [1, 2, 3], (.exit 0), [(0, .sr 1), (9, .x 6)], some lh353⟩
def lh354 : LH := ⟨1, 20, 80, [(2, .b ⟨53, .l [.i .i64 (.ofNat 200), .sy 3, .i .i64 (.ofNat 0), .b false], 0, 0, 0, false, false⟩), (3, .t 11 5)], [(2, .b ⟨53, .l [.i .i64 (.ofNat 200), .sy 21, .x 15, .b false], 0, 0, 0, false, false⟩), (20, .r 2000003 26 4 false)]⟩
def lf354 : LF := ⟨2, 38, [(0, .p 2 0), (1, .x 11), (7, .nils)], [], .ret, [(4, .sr 20), (5, .x 14), (6, .ni)], some lh354⟩
def lh355 : LH := ⟨1, 120, 180, [(2, .b ⟨53, .l [.i .i64 (.ofNat 200), .sy 81, .x 16, .b false], 0, 0, 0, false, false⟩), (81, .t 20 5)], [(2, .b ⟨53, .l [.i .i64 (.ofNat 200), .sy 121, .x 23, .b false], 0, 0, 0, false, false⟩)]⟩
def lf355 : LF := ⟨2, 38, [(0, .p 2 0), (1, .x 20), (7, .nils)], [], .ret, [(4, .nils), (5, .x 22), (6, .ifc 68 (.ag [.i .i64 (.ofNat 10), .s 35 883751524516594027940889836758751821087985845510287451484159566615753519918736505186]))], some lh355⟩
def lh356 : LH := ⟨1, 184, 184, [(181, .r 2000005 26 4 false), (1, .r 2000002 26 4 true)], [(181, .r 2000006 26 4 false), (1, .r 2000007 26 4 true)]⟩
def lf356 : LF := ⟨4, 26, [(0, .sr 181), (1, .sr 1), (5, .i .i64 (.ofNat 0))], [], (.exit 0), [], some lh356⟩
noncomputable def tab19 : Tab := addLps (addLps (addLps ({ tabk with hyp := hy19 }) 3 fi3 [lf353]) 19 fi19 [lf354, lf355]) 13 fi13 [lf356]
theorem run19 (e : Nat) : Go.AX.okB (call tab19 9000 3 [.sr 1, .x 0, .x 1, .x 2] ⟨addR 1 [.r 2000000 26 4 true] (H0 e ), 1 + List.length (α := Ent) [.r 2000000 26 4 true], 0, 0⟩) = true := by kernel_rfl
def nu19 (blk_z : Nat) (base_z : Nat) (es_z : Nat) (z : List (Int × Int × LB × Int)) (kd : Int) (tl : LB) (at_ : Int) : List Value := [.int .u8 (kd),
  St' tl,
  .int .u8 (at_),
  St' ([] : LB),
  .int .i64 ((z.length : Int)),
  .int .i64 ((tl.length : Int)),
  St' (rbS z),
  .int .u8 (kd % 3),
  .int .i64 (((rbS z).length : Int)),
  .int .i64 (at_),
  .int .i64 ((kA z at_)),
  St' (tA z at_),
  .int .u8 (bt (tA z at_) 0),
  .int .i64 ((kA z at_)),
  St' ((cA z at_).2.1),
  .int .i64 (0),
  .int .i64 ((ndS ((cA z at_).2.1))),
  St' (dA z at_),
  St' ((dA z at_) ++ [u8 1, u8 0, u8 0, u8 1, u8 0, u8 0, u8 0, u8 0]),
  St' ((dA z at_) ++ ([u8 1, u8 0, u8 0, u8 1, u8 0, u8 0, u8 0, u8 0] ++ tl)),
  St' ((cA z at_).2.1 ++ ((dA z at_) ++ ([u8 1, u8 0, u8 0, u8 1, u8 0, u8 0, u8 0, u8 0] ++ tl))),
  .int .i64 (((cA z at_).2.1.length : Int) + ((rbS z).length : Int) + (tl.length : Int) + 8 - (kA z at_)),
  St' ((cB z at_ ([u8 1, u8 0, u8 0, u8 1, u8 0, u8 0, u8 0, u8 0] ++ tl)).2.1),
  .int .i64 ((ndS ((cA z at_).2.1))),
  .int .i64 (((cA z at_).1.length : Int)),
  .int .i64 (((cA z at_).1.length : Int)),
  .int .i64 ((z.length : Int))]
def ro19 (blk_z : Nat) (base_z : Nat) (es_z : Nat) (z : List (Int × Int × LB × Int)) (kd : Int) (tl : LB) (at_ : Int) : List Value := [rwG reC z,
  rwS ([] : List LB),
  rwG reC z,
  rwG reC ((cA z at_).1),
  rwG reC ((cA z at_).1),
  rwG reC ((cA z at_).1),
  rwG reC ((cA z at_).1),
  rwG reC z]
theorem on19 (blk_z : Nat) (base_z : Nat) (es_z : Nat) (z : List (Int × Int × LB × Int)) (kd : Int) (tl : LB) (at_ : Int) : ∀ j, (nuL (nu19 blk_z base_z es_z z kd tl at_) j).oneCell' = true := nuL_one (l := nu19 blk_z base_z es_z z kd tl at_) rfl
theorem path19 (blk_z : Nat) (base_z : Nat) (es_z : Nat) (z : List (Int × Int × LB × Int)) (kd : Int) (tl : LB) (at_ : Int) (b0 : ∀ n, n ∈ z → reB n) (b1 : z.length ≤ 9223372036854775807) (b2 : 0 ≤ kd) (b3 : kd ≤ 255) (b4 : tl.length ≤ 9223372036854775807) (b5 : 0 ≤ at_) (b6 : at_ ≤ 255) (h0 : ¬ (6 < (z.length : Int))) (h1 : ¬ (100 < (tl.length : Int))) (h2 : okR 100 z) (h3 : kd % 3 = 2) (h4 : ¬ ((kA z at_) = 0)) (h6 : ¬ ((cA z at_).1.length = 0)) (h8 : (cB z at_ ([u8 1, u8 0, u8 0, u8 1, u8 0, u8 0, u8 0, u8 0] ++ tl)).1.length = 0) (w : World) (hl : laidE w) (w_z : InRow w 4 (z.flatMap reC) blk_z base_z z.length es_z) (g_z : ∀ e, (H0 e ).get blk_z = none) : CwR 3 #[.slice (some ⟨blk_z, base_z, none⟩) z.length es_z, .int .u8 kd, St' tl, .int .u8 at_] w (.bool true) := by
  have hrl := rbS_len (b := 100) (by omega) z (by assumption)
  have hkA : kA z at_ = min ((rbS z).length : Int) at_ := rfl
  obtain ⟨hta, hda, hc1, hlr, hln⟩ := fA (z := z) (a := at_) (by assumption) (by omega)
  have := bt_lo (tA z at_) 0; have := bt_hi (tA z at_) 0
  obtain ⟨hc2, hnd, hq1, hq2, hzl⟩ := fB (z := z) (a := at_) (by assumption) (cs_b2 (t := tl)) (by decide)
  simp only [List.length_append, List.length_cons, List.length_nil] at hnd
  have hwl : (((cA z at_).2.1 ++ ((dA z at_) ++ ([u8 1, u8 0, u8 0, u8 1, u8 0, u8 0, u8 0, u8 0] ++ tl)))).length ≤ 100000 := by simp only [List.length_append, List.length_cons, List.length_nil]; omega
  have ho : ∀ k r, (k, r) ∈ hy19 → HOk (cx (nuX (nu19 blk_z base_z es_z z kd tl at_) (rX (ro19 blk_z base_z es_z z kd tl at_) (fun _ => .bool true))) (nuX_one (on19 blk_z base_z es_z z kd tl at_)) 1 laidE laidE_stab) k r := by
    unfold hy19
    exact hc (kBytesB (bs := ([] : LB)) .nil (denX rfl)) <|
     hc (kRn (denX rfl)) <|
     hc (kRlG reC_len (isX rfl) (denX rfl) (by first | omega | (simp <;> omega))) <|
     hc (gtcF rfl (by omega)) <|
     hc (lnV rfl rfl (by omega)) <|
     hc (gtcF rfl (by omega)) <|
     hc (kRem (isX rfl) (isZ (m := 3) rfl) (denX rfl) (by omega) (by omega) rfl) <|
     hc (kTabK (j := 2) (isX rfl) (by omega) rfl) <|
     hc (kTabK (j := 2) (isX rfl) (by omega) rfl) <|
     hc (lnV rfl rfl (by omega)) <|
     hc (kConvF (isX rfl) tu3 (denX rfl) (fI64 (by omega) (by omega))) <|
     hc (kMin (isX rfl) (isX rfl) (denX rfl) rfl) <|
     hc (kMid (P := 0) (Q := (kA z at_)) (isX rfl) (.inl ⟨rfl, rfl⟩) (.inr ⟨_, _, rfl, (isX rfl)⟩) (by omega) (by omega) (by omega) (denX (congrArg (fun l => St' l) takeE))) <|
     hc (kByt (i := 0) (isX rfl) (isZ (m := 0) rfl) (denX rfl) rfl (by first | omega | (simp <;> omega)) rfl) <|
     hc (kFit (isX rfl) (by first | omega | (simp <;> omega))) <|
     hc (lnV rfl rfl (by omega)) <|
     hc (ltcF rfl (by omega)) <|
     hc (kFit (isX rfl) (by first | omega | (simp <;> omega))) <|
     hc (hokNds (isX rfl) (denX rfl) (by omega)) <|
     hc (kMid (P := (kA z at_)) (Q := ((rbS z).length : Int)) (isX rfl) (.inr ⟨_, _, rfl, (isX rfl)⟩) (.inl ⟨rfl, rfl⟩) (by omega) (by omega) (by omega) (denX (congrArg (fun l => St' l) dropE))) <|
     hc (kCat (isX rfl) (isSx (l := [u8 1, u8 0, u8 0, u8 1, u8 0, u8 0, u8 0, u8 0]) 8 16777217 rfl) (denX rfl) (by first | rfl | (simp; done)) (by first | omega | (simp <;> omega))) <|
     hc (kCat (isX rfl) (isX rfl) (denX rfl) (by first | rfl | (simp; done)) (by first | omega | (simp <;> omega))) <|
     hc (kCat (isX rfl) (isX rfl) (denX rfl) (by first | rfl | (simp; done)) (by first | omega | (simp <;> omega))) <|
     hc (kFit (isX rfl) (by first | omega | (simp <;> omega))) <|
     hc (lnV rfl rfl (by first | omega | (simp <;> omega))) <|
     hc (ltF rfl rfl (by omega)) <|
     hc (kRlG reC_len (isX rfl) (denX rfl) (by first | omega | (simp <;> omega))) <|
     hc (gtcT rfl (by omega)) <|
     hc (kRr (f := reC) (l := []) (m := (cA z at_).1) (isX rfl) (isX rfl) (denX rfl)) <|
     hc (kRfG reC_len (isX rfl) (by first | (rw [List.length_append]; omega) | (first | omega | (simp <;> omega))) (by first | (rw [List.length_append]; omega) | (first | omega | (simp <;> omega)))) <|
     hc (kRa0 (f := reC) (isX rfl) (denX rfl)) <|
     hc (kRfG reC_len (isX rfl) (by first | (rw [List.length_append]; omega) | (first | omega | (simp <;> omega))) (by first | (rw [List.length_append]; omega) | (first | omega | (simp <;> omega)))) <|
     hc (kRlG reC_len (isX rfl) (denX rfl) (by first | omega | (simp <;> omega))) <|
     hc (kRlG reC_len (isX rfl) (denX rfl) (by first | omega | (simp <;> omega))) <|
     hc (kNeI (isX rfl) (isX rfl) (neF (by omega))) <|
     hnil
  exact runPR (tb := tab19) (AllOk.lp1 (AllOk.lp1 (AllOk.lp1 ((tabkOk (nuX (nu19 blk_z base_z es_z z kd tl at_) (rX (ro19 blk_z base_z es_z z kd tl at_) (fun _ => .bool true))) (nuX_one (on19 blk_z base_z es_z z kd tl at_))).hyps ho) (by omega) fi3_at fi3_body (lfCons (lpKnown rfl ⟨0, keyLa, lfOkLa_0 (l := lf353) (h := lh353) z (by assumption) (0, (0 : Int), ([] : LB)) (mkILa z 0 (0 : Int) ([] : LB) ⟨by omega, by omega, by omega, by assumption, by simp, rfl, (fun r hr => nomatch hr), by omega⟩) rfl (by kernel_rfl) (th0 := [(0, .i .i64 (.ofNat 0)), (1, .s 0 0), (2000000, .x 2000000)]) (sg0 := []) (fun X => thCons (show Is _ (.i .i64 (.ofNat 0)) (.int .i64 ((0 : Int))) from isTo (v := .int .i64 0) (isI _ _) (by first | rfl | (congr 1; omega))) (thCons (show Is _ (.s 0 0) (St' ([] : LB)) from isTo (v := St' ([] : LB)) (isSx (l := ([] : LB)) 0 0 rfl) (by first | rfl | (simp; done))) (thXv (v := rwG reC z) rfl rfl (thNil)))) (by kernel_rfl) (thx := [(6, .x 0), (2000002, .x 2000000)]) (thXv (v := St' (rbS z)) rfl rfl (thXv (v := rwG reC z) rfl rfl (thNil))) (by kernel_rfl)⟩) lfNil)) (by omega) (get_lps2 (by omega) (by omega) fi19_at) fi19_body (lfCons (lpKnown rfl ⟨0, keyCu0, lfOkCu0_1 (l := lf354) (h := lh354) ((cA z at_).1) ((cA z at_).2.1) ((cA z at_).2.2) 0 hc1 (by omega) (0, (tA z at_), []) (mkICu0 ((cA z at_).1) ((cA z at_).2.1) ((cA z at_).2.2) 0 0 (tA z at_) [] ⟨by first | omega | (simp; done), rfl, rfl, rfl, by simp only [List.length_nil]; omega, fun _ => rfl, fun h => by omega, by omega⟩) rfl (by kernel_rfl) (th0 := [(0, .x 11), (1, .i .i64 (.ofNat 0))]) (sg0 := [(21, 3)]) (fun X => thXv (v := St' (tA z at_)) rfl rfl (thCons (show Is _ (.i .i64 (.ofNat 0)) (.int .i64 (0)) from isTo (v := .int .i64 0) (isI _ _) (by first | rfl | (congr 1; omega))) (thNil))) (by kernel_rfl) (thx := [(14, .x 0), (15, .x 1), (2000003, .x 2000000)]) (thXv (v := St' ((cA z at_).2.1)) rfl rfl (thXv (v := .int .i64 (0)) rfl rfl (thXv (v := rwG reC ((cA z at_).1)) rfl rfl (thNil)))) (by kernel_rfl)⟩) (lfCons (lpKnown rfl ⟨0, keyCu1, lfOkCu1_0 (l := lf355) (h := lh355) ((cB z at_ ([u8 1, u8 0, u8 0, u8 1, u8 0, u8 0, u8 0, u8 0] ++ tl)).1) ((cB z at_ ([u8 1, u8 0, u8 0, u8 1, u8 0, u8 0, u8 0, u8 0] ++ tl)).2.1) ((cB z at_ ([u8 1, u8 0, u8 0, u8 1, u8 0, u8 0, u8 0, u8 0] ++ tl)).2.2) (ndS ((cA z at_).2.1)) hc2.2 (by omega) (0, ((cA z at_).2.1 ++ ((dA z at_) ++ ([u8 1, u8 0, u8 0, u8 1, u8 0, u8 0, u8 0, u8 0] ++ tl))), []) (mkICu1 ((cB z at_ ([u8 1, u8 0, u8 0, u8 1, u8 0, u8 0, u8 0, u8 0] ++ tl)).1) ((cB z at_ ([u8 1, u8 0, u8 0, u8 1, u8 0, u8 0, u8 0, u8 0] ++ tl)).2.1) ((cB z at_ ([u8 1, u8 0, u8 0, u8 1, u8 0, u8 0, u8 0, u8 0] ++ tl)).2.2) (ndS ((cA z at_).2.1)) 0 ((cA z at_).2.1 ++ ((dA z at_) ++ ([u8 1, u8 0, u8 0, u8 1, u8 0, u8 0, u8 0, u8 0] ++ tl))) [] ⟨by first | omega | (simp; done), rfl, rfl, rfl, by simp only [List.length_nil]; omega, fun _ => rfl, fun h => by omega, by omega⟩) rfl (by kernel_rfl) (th0 := [(0, .x 20), (1, .x 16)]) (sg0 := [(121, 81)]) (fun X => thXv (v := St' ((cA z at_).2.1 ++ ((dA z at_) ++ ([u8 1, u8 0, u8 0, u8 1, u8 0, u8 0, u8 0, u8 0] ++ tl)))) rfl rfl (thXv (v := .int .i64 ((ndS ((cA z at_).2.1)))) rfl rfl (thNil))) (by kernel_rfl) (thx := [(22, .x 0), (23, .x 1)]) (thXv (v := St' ((cB z at_ ([u8 1, u8 0, u8 0, u8 1, u8 0, u8 0, u8 0, u8 0] ++ tl)).2.1)) rfl rfl (thXv (v := .int .i64 ((ndS ((cA z at_).2.1)))) rfl rfl (thNil))) (by kernel_rfl)⟩) lfNil))) (by omega) (get_lps2 (by omega) (by omega) (get_lps2 (by omega) (by omega) fi13_at)) fi13_body (lfCons (lpKnown rfl ⟨0, keySa1, lfOkSa1_0 (l := lf356) (h := lh356) z (0, (0 : Int)) (mkISa1 z 0 (0 : Int) ⟨by omega, by omega, by omega, by assumption, by omega⟩) rfl (by kernel_rfl) (th0 := [(0, .i .i64 (.ofNat 0)), (2000000, .x 2000005), (2000001, .x 2000002)]) (sg0 := []) (fun X => thCons (show Is _ (.i .i64 (.ofNat 0)) (.int .i64 ((0 : Int))) from isTo (v := .int .i64 0) (isI _ _) (by first | rfl | (congr 1; omega))) (thXe (v := rwG reC ((cA z at_).1)) (u := rwG reC z) rfl rfl (congrArg (rwG reC) ((cs_R hc2.1 (by omega)))) (thXv (v := rwG reC z) rfl rfl (thNil)))) (by kernel_rfl) (thx := [(2000006, .x 2000000), (2000007, .x 2000001)]) (thXe (v := rwG reC z) (u := rwG reC ((cA z at_).1)) rfl rfl ((congrArg (rwG reC) ((cs_R hc2.1 (by omega)))).symm) (thXv (v := rwG reC z) rfl rfl (thNil))) (by kernel_rfl)⟩) lfNil)) rfl (get_lps2 (by omega) (by omega) (get_lps2 (by omega) (by omega) (get_lps (by omega)))) fiB3 [.r 2000000 26 4 true] [⟨blk_z, base_z, z.length, es_z⟩] (fun e => run19 e ) (args := [.slice (some ⟨blk_z, base_z, none⟩) z.length es_z, .int .u8 kd, St' tl, .int .u8 at_]) ⟨_, _, rfl, relSrN (by decide) rfl w_z.room, ⟨_, _, rfl, rfl, ⟨_, _, rfl, rfl, ⟨_, _, rfl, rfl, rfl⟩⟩⟩⟩ w hl rfl (by decide) (fun e => (argsCons (w_z.arg (g_z e ) rfl) argsNil)) rfl
def hy20 : LK := [(.bytes [], .x 3),
  (.rn, .x 2000001),
  (.rl (.x 2000000) 4, .x 4),
  (.bin .gtr (.x 4) (.i .i64 (.ofNat 6)), .b false),
  (.len (.x 1), .x 5),
  (.bin .gtr (.x 5) (.i .i64 (.ofNat 100)), .b false),
  (.bin .rem (.x 0) (.i .u8 (.ofNat 3)), .x 7),
  (.tab [.s 1 7, .s 6 4311746049, .s 8 16777217] (.x 7), .s 8 16777217),
  (.tab [.i .i64 (.ofNat 13), .i .i64 (.ofNat 12), .i .i64 (.ofNat 10)] (.x 7), .i .i64 (.ofNat 10)),
  (.len (.x 6), .x 8),
  (.conv 3 (.x 2), .x 9),
  (.mm false (.x 8) (.x 9), .x 10),
  (.sub (.x 6) none (some (.x 10)), .x 11),
  (.byt (.x 11) (.i .i64 (.ofNat 0)), .x 12),
  (.fit (.x 11), .b true),
  (.len (.x 11), .x 13),
  (.bin .lss (.x 13) (.i .i64 (.ofNat 0)), .b false),
  (.fit (.x 14), .b true),
  (.call 20 [.x 14], .x 16),
  (.sub (.x 6) (some (.x 10)) none, .x 17),
  (.bin .add (.x 17) (.s 8 16777217), .x 18),
  (.bin .add (.x 18) (.x 1), .x 19),
  (.bin .add (.x 14) (.x 19), .x 20),
  (.fit (.x 20), .b true),
  (.len (.x 20), .x 21),
  (.bin .lss (.x 21) (.x 16), .b false),
  (.rl (.x 2000003) 4, .x 24),
  (.bin .gtr (.x 24) (.i .i64 (.ofNat 0)), .b true),
  (.rr (.x 2000001) (.x 2000003), .x 2000005),
  (.rf (.x 2000005) 4 40, .b true),
  (.rr (.x 2000005) (.x 2000004), .x 2000006),
  (.rf (.x 2000006) 4 40, .b true),
  (.rl (.x 2000006) 4, .x 25),
  (.rl (.x 2000002) 4, .x 26),
  (.bin .neq (.x 25) (.x 26), .b false)]
def lh401 : LH := ⟨1, 2, 2, [(1, .r 2000000 26 4 true)], [(1, .r 2000002 26 4 true)]⟩
def lf401 : LF := ⟨7, 125, [(0, .sr 1), (9, .s 0 0), (10, .i .i64 (.ofNat 0))], [1, 2, 3], (.exit 0), [(0, .sr 1), (9, .x 6)], some lh401⟩
def lh402 : LH := ⟨1, 20, 80, [(2, .b ⟨53, .l [.i .i64 (.ofNat 200), .sy 3, .i .i64 (.ofNat 0), .b false], 0, 0, 0, false, false⟩), (3, .t 11 5)], [(2, .b ⟨53, .l [.i .i64 (.ofNat 200), .sy 21, .x 15, .b false], 0, 0, 0, false, false⟩), (20, .r 2000003 26 4 false)]⟩
def lf402 : LF := ⟨2, 38, [(0, .p 2 0), (1, .x 11), (7, .nils)], [], .ret, [(4, .sr 20), (5, .x 14), (6, .ni)], some lh402⟩
def lh403 : LH := ⟨1, 120, 180, [(2, .b ⟨53, .l [.i .i64 (.ofNat 200), .sy 81, .x 16, .b false], 0, 0, 0, false, false⟩), (81, .t 20 5)], [(2, .b ⟨53, .l [.i .i64 (.ofNat 200), .sy 121, .x 23, .b false], 0, 0, 0, false, false⟩), (120, .r 2000004 26 4 false)]⟩
def lf403 : LF := ⟨2, 38, [(0, .p 2 0), (1, .x 20), (7, .nils)], [], .ret, [(4, .sr 120), (5, .x 22), (6, .ifc 68 (.ag [.i .i64 (.ofNat 10), .s 35 883751524516594027940889836758751821087985845510287451484159566615753519918736505186]))], some lh403⟩
def lh404 : LH := ⟨1, 184, 184, [(181, .r 2000006 26 4 false), (1, .r 2000002 26 4 true)], [(181, .r 2000007 26 4 false), (1, .r 2000008 26 4 true)]⟩
def lf404 : LF := ⟨4, 26, [(0, .sr 181), (1, .sr 1), (5, .i .i64 (.ofNat 0))], [], (.exit 0), [], some lh404⟩
noncomputable def tab20 : Tab := addLps (addLps (addLps ({ tabk with hyp := hy20 }) 3 fi3 [lf401]) 19 fi19 [lf402, lf403]) 13 fi13 [lf404]
theorem run20 (e : Nat) : Go.AX.okB (call tab20 9000 3 [.sr 1, .x 0, .x 1, .x 2] ⟨addR 1 [.r 2000000 26 4 true] (H0 e ), 1 + List.length (α := Ent) [.r 2000000 26 4 true], 0, 0⟩) = true := by kernel_rfl
def nu20 (blk_z : Nat) (base_z : Nat) (es_z : Nat) (z : List (Int × Int × LB × Int)) (kd : Int) (tl : LB) (at_ : Int) : List Value := [.int .u8 (kd),
  St' tl,
  .int .u8 (at_),
  St' ([] : LB),
  .int .i64 ((z.length : Int)),
  .int .i64 ((tl.length : Int)),
  St' (rbS z),
  .int .u8 (kd % 3),
  .int .i64 (((rbS z).length : Int)),
  .int .i64 (at_),
  .int .i64 ((kA z at_)),
  St' (tA z at_),
  .int .u8 (bt (tA z at_) 0),
  .int .i64 ((kA z at_)),
  St' ((cA z at_).2.1),
  .int .i64 (0),
  .int .i64 ((ndS ((cA z at_).2.1))),
  St' (dA z at_),
  St' ((dA z at_) ++ [u8 1, u8 0, u8 0, u8 1, u8 0, u8 0, u8 0, u8 0]),
  St' ((dA z at_) ++ ([u8 1, u8 0, u8 0, u8 1, u8 0, u8 0, u8 0, u8 0] ++ tl)),
  St' ((cA z at_).2.1 ++ ((dA z at_) ++ ([u8 1, u8 0, u8 0, u8 1, u8 0, u8 0, u8 0, u8 0] ++ tl))),
  .int .i64 (((cA z at_).2.1.length : Int) + ((rbS z).length : Int) + (tl.length : Int) + 8 - (kA z at_)),
  St' ((cB z at_ ([u8 1, u8 0, u8 0, u8 1, u8 0, u8 0, u8 0, u8 0] ++ tl)).2.1),
  .int .i64 ((ndS ((cA z at_).2.1))),
  .int .i64 (((cA z at_).1.length : Int)),
  .int .i64 (((cA z at_).1.length : Int) + ((cB z at_ ([u8 1, u8 0, u8 0, u8 1, u8 0, u8 0, u8 0, u8 0] ++ tl)).1.length : Int)),
  .int .i64 ((z.length : Int))]
def ro20 (blk_z : Nat) (base_z : Nat) (es_z : Nat) (z : List (Int × Int × LB × Int)) (kd : Int) (tl : LB) (at_ : Int) : List Value := [rwG reC z,
  rwS ([] : List LB),
  rwG reC z,
  rwG reC ((cA z at_).1),
  rwG reC ((cB z at_ ([u8 1, u8 0, u8 0, u8 1, u8 0, u8 0, u8 0, u8 0] ++ tl)).1),
  rwG reC ((cA z at_).1),
  rwG reC ((cA z at_).1 ++ (cB z at_ ([u8 1, u8 0, u8 0, u8 1, u8 0, u8 0, u8 0, u8 0] ++ tl)).1),
  rwG reC ((cA z at_).1 ++ (cB z at_ ([u8 1, u8 0, u8 0, u8 1, u8 0, u8 0, u8 0, u8 0] ++ tl)).1),
  rwG reC z]
theorem on20 (blk_z : Nat) (base_z : Nat) (es_z : Nat) (z : List (Int × Int × LB × Int)) (kd : Int) (tl : LB) (at_ : Int) : ∀ j, (nuL (nu20 blk_z base_z es_z z kd tl at_) j).oneCell' = true := nuL_one (l := nu20 blk_z base_z es_z z kd tl at_) rfl
theorem path20 (blk_z : Nat) (base_z : Nat) (es_z : Nat) (z : List (Int × Int × LB × Int)) (kd : Int) (tl : LB) (at_ : Int) (b0 : ∀ n, n ∈ z → reB n) (b1 : z.length ≤ 9223372036854775807) (b2 : 0 ≤ kd) (b3 : kd ≤ 255) (b4 : tl.length ≤ 9223372036854775807) (b5 : 0 ≤ at_) (b6 : at_ ≤ 255) (h0 : ¬ (6 < (z.length : Int))) (h1 : ¬ (100 < (tl.length : Int))) (h2 : okR 100 z) (h3 : kd % 3 = 2) (h4 : ¬ ((kA z at_) = 0)) (h6 : ¬ ((cA z at_).1.length = 0)) (h8 : ¬ ((cB z at_ ([u8 1, u8 0, u8 0, u8 1, u8 0, u8 0, u8 0, u8 0] ++ tl)).1.length = 0)) (w : World) (hl : laidE w) (w_z : InRow w 4 (z.flatMap reC) blk_z base_z z.length es_z) (g_z : ∀ e, (H0 e ).get blk_z = none) : CwR 3 #[.slice (some ⟨blk_z, base_z, none⟩) z.length es_z, .int .u8 kd, St' tl, .int .u8 at_] w (.bool true) := by
  have hrl := rbS_len (b := 100) (by omega) z (by assumption)
  have hkA : kA z at_ = min ((rbS z).length : Int) at_ := rfl
  obtain ⟨hta, hda, hc1, hlr, hln⟩ := fA (z := z) (a := at_) (by assumption) (by omega)
  have := bt_lo (tA z at_) 0; have := bt_hi (tA z at_) 0
  obtain ⟨hc2, hnd, hq1, hq2, hzl⟩ := fB (z := z) (a := at_) (by assumption) (cs_b2 (t := tl)) (by decide)
  simp only [List.length_append, List.length_cons, List.length_nil] at hnd
  have hwl : (((cA z at_).2.1 ++ ((dA z at_) ++ ([u8 1, u8 0, u8 0, u8 1, u8 0, u8 0, u8 0, u8 0] ++ tl)))).length ≤ 100000 := by simp only [List.length_append, List.length_cons, List.length_nil]; omega
  have ho : ∀ k r, (k, r) ∈ hy20 → HOk (cx (nuX (nu20 blk_z base_z es_z z kd tl at_) (rX (ro20 blk_z base_z es_z z kd tl at_) (fun _ => .bool true))) (nuX_one (on20 blk_z base_z es_z z kd tl at_)) 1 laidE laidE_stab) k r := by
    unfold hy20
    exact hc (kBytesB (bs := ([] : LB)) .nil (denX rfl)) <|
     hc (kRn (denX rfl)) <|
     hc (kRlG reC_len (isX rfl) (denX rfl) (by first | omega | (simp <;> omega))) <|
     hc (gtcF rfl (by omega)) <|
     hc (lnV rfl rfl (by omega)) <|
     hc (gtcF rfl (by omega)) <|
     hc (kRem (isX rfl) (isZ (m := 3) rfl) (denX rfl) (by omega) (by omega) rfl) <|
     hc (kTabK (j := 2) (isX rfl) (by omega) rfl) <|
     hc (kTabK (j := 2) (isX rfl) (by omega) rfl) <|
     hc (lnV rfl rfl (by omega)) <|
     hc (kConvF (isX rfl) tu3 (denX rfl) (fI64 (by omega) (by omega))) <|
     hc (kMin (isX rfl) (isX rfl) (denX rfl) rfl) <|
     hc (kMid (P := 0) (Q := (kA z at_)) (isX rfl) (.inl ⟨rfl, rfl⟩) (.inr ⟨_, _, rfl, (isX rfl)⟩) (by omega) (by omega) (by omega) (denX (congrArg (fun l => St' l) takeE))) <|
     hc (kByt (i := 0) (isX rfl) (isZ (m := 0) rfl) (denX rfl) rfl (by first | omega | (simp <;> omega)) rfl) <|
     hc (kFit (isX rfl) (by first | omega | (simp <;> omega))) <|
     hc (lnV rfl rfl (by omega)) <|
     hc (ltcF rfl (by omega)) <|
     hc (kFit (isX rfl) (by first | omega | (simp <;> omega))) <|
     hc (hokNds (isX rfl) (denX rfl) (by omega)) <|
     hc (kMid (P := (kA z at_)) (Q := ((rbS z).length : Int)) (isX rfl) (.inr ⟨_, _, rfl, (isX rfl)⟩) (.inl ⟨rfl, rfl⟩) (by omega) (by omega) (by omega) (denX (congrArg (fun l => St' l) dropE))) <|
     hc (kCat (isX rfl) (isSx (l := [u8 1, u8 0, u8 0, u8 1, u8 0, u8 0, u8 0, u8 0]) 8 16777217 rfl) (denX rfl) (by first | rfl | (simp; done)) (by first | omega | (simp <;> omega))) <|
     hc (kCat (isX rfl) (isX rfl) (denX rfl) (by first | rfl | (simp; done)) (by first | omega | (simp <;> omega))) <|
     hc (kCat (isX rfl) (isX rfl) (denX rfl) (by first | rfl | (simp; done)) (by first | omega | (simp <;> omega))) <|
     hc (kFit (isX rfl) (by first | omega | (simp <;> omega))) <|
     hc (lnV rfl rfl (by first | omega | (simp <;> omega))) <|
     hc (ltF rfl rfl (by omega)) <|
     hc (kRlG reC_len (isX rfl) (denX rfl) (by first | omega | (simp <;> omega))) <|
     hc (gtcT rfl (by omega)) <|
     hc (kRr (f := reC) (l := []) (m := (cA z at_).1) (isX rfl) (isX rfl) (denX rfl)) <|
     hc (kRfG reC_len (isX rfl) (by first | (rw [List.length_append]; omega) | (first | omega | (simp <;> omega))) (by first | (rw [List.length_append]; omega) | (first | omega | (simp <;> omega)))) <|
     hc (kRr (f := reC) (l := (cA z at_).1) (m := (cB z at_ ([u8 1, u8 0, u8 0, u8 1, u8 0, u8 0, u8 0, u8 0] ++ tl)).1) (isX rfl) (isX rfl) (denX rfl)) <|
     hc (kRfG reC_len (isX rfl) (by first | (rw [List.length_append]; omega) | (first | omega | (simp <;> omega))) (by first | (rw [List.length_append]; omega) | (first | omega | (simp <;> omega)))) <|
     hc (kRlG reC_len (isX rfl) (denX rfl) (by first | omega | (simp <;> omega))) <|
     hc (kRlG reC_len (isX rfl) (denX rfl) (by first | omega | (simp <;> omega))) <|
     hc (kNeI (isX rfl) (isX rfl) (neF (by omega))) <|
     hnil
  exact runPR (tb := tab20) (AllOk.lp1 (AllOk.lp1 (AllOk.lp1 ((tabkOk (nuX (nu20 blk_z base_z es_z z kd tl at_) (rX (ro20 blk_z base_z es_z z kd tl at_) (fun _ => .bool true))) (nuX_one (on20 blk_z base_z es_z z kd tl at_))).hyps ho) (by omega) fi3_at fi3_body (lfCons (lpKnown rfl ⟨0, keyLa, lfOkLa_0 (l := lf401) (h := lh401) z (by assumption) (0, (0 : Int), ([] : LB)) (mkILa z 0 (0 : Int) ([] : LB) ⟨by omega, by omega, by omega, by assumption, by simp, rfl, (fun r hr => nomatch hr), by omega⟩) rfl (by kernel_rfl) (th0 := [(0, .i .i64 (.ofNat 0)), (1, .s 0 0), (2000000, .x 2000000)]) (sg0 := []) (fun X => thCons (show Is _ (.i .i64 (.ofNat 0)) (.int .i64 ((0 : Int))) from isTo (v := .int .i64 0) (isI _ _) (by first | rfl | (congr 1; omega))) (thCons (show Is _ (.s 0 0) (St' ([] : LB)) from isTo (v := St' ([] : LB)) (isSx (l := ([] : LB)) 0 0 rfl) (by first | rfl | (simp; done))) (thXv (v := rwG reC z) rfl rfl (thNil)))) (by kernel_rfl) (thx := [(6, .x 0), (2000002, .x 2000000)]) (thXv (v := St' (rbS z)) rfl rfl (thXv (v := rwG reC z) rfl rfl (thNil))) (by kernel_rfl)⟩) lfNil)) (by omega) (get_lps2 (by omega) (by omega) fi19_at) fi19_body (lfCons (lpKnown rfl ⟨0, keyCu0, lfOkCu0_1 (l := lf402) (h := lh402) ((cA z at_).1) ((cA z at_).2.1) ((cA z at_).2.2) 0 hc1 (by omega) (0, (tA z at_), []) (mkICu0 ((cA z at_).1) ((cA z at_).2.1) ((cA z at_).2.2) 0 0 (tA z at_) [] ⟨by first | omega | (simp; done), rfl, rfl, rfl, by simp only [List.length_nil]; omega, fun _ => rfl, fun h => by omega, by omega⟩) rfl (by kernel_rfl) (th0 := [(0, .x 11), (1, .i .i64 (.ofNat 0))]) (sg0 := [(21, 3)]) (fun X => thXv (v := St' (tA z at_)) rfl rfl (thCons (show Is _ (.i .i64 (.ofNat 0)) (.int .i64 (0)) from isTo (v := .int .i64 0) (isI _ _) (by first | rfl | (congr 1; omega))) (thNil))) (by kernel_rfl) (thx := [(14, .x 0), (15, .x 1), (2000003, .x 2000000)]) (thXv (v := St' ((cA z at_).2.1)) rfl rfl (thXv (v := .int .i64 (0)) rfl rfl (thXv (v := rwG reC ((cA z at_).1)) rfl rfl (thNil)))) (by kernel_rfl)⟩) (lfCons (lpKnown rfl ⟨0, keyCu1, lfOkCu1_1 (l := lf403) (h := lh403) ((cB z at_ ([u8 1, u8 0, u8 0, u8 1, u8 0, u8 0, u8 0, u8 0] ++ tl)).1) ((cB z at_ ([u8 1, u8 0, u8 0, u8 1, u8 0, u8 0, u8 0, u8 0] ++ tl)).2.1) ((cB z at_ ([u8 1, u8 0, u8 0, u8 1, u8 0, u8 0, u8 0, u8 0] ++ tl)).2.2) (ndS ((cA z at_).2.1)) hc2.2 (by omega) (0, ((cA z at_).2.1 ++ ((dA z at_) ++ ([u8 1, u8 0, u8 0, u8 1, u8 0, u8 0, u8 0, u8 0] ++ tl))), []) (mkICu1 ((cB z at_ ([u8 1, u8 0, u8 0, u8 1, u8 0, u8 0, u8 0, u8 0] ++ tl)).1) ((cB z at_ ([u8 1, u8 0, u8 0, u8 1, u8 0, u8 0, u8 0, u8 0] ++ tl)).2.1) ((cB z at_ ([u8 1, u8 0, u8 0, u8 1, u8 0, u8 0, u8 0, u8 0] ++ tl)).2.2) (ndS ((cA z at_).2.1)) 0 ((cA z at_).2.1 ++ ((dA z at_) ++ ([u8 1, u8 0, u8 0, u8 1, u8 0, u8 0, u8 0, u8 0] ++ tl))) [] ⟨by first | omega | (simp; done), rfl, rfl, rfl, by simp only [List.length_nil]; omega, fun _ => rfl, fun h => by omega, by omega⟩) rfl (by kernel_rfl) (th0 := [(0, .x 20), (1, .x 16)]) (sg0 := [(121, 81)]) (fun X => thXv (v := St' ((cA z at_).2.1 ++ ((dA z at_) ++ ([u8 1, u8 0, u8 0, u8 1, u8 0, u8 0, u8 0, u8 0] ++ tl)))) rfl rfl (thXv (v := .int .i64 ((ndS ((cA z at_).2.1)))) rfl rfl (thNil))) (by kernel_rfl) (thx := [(22, .x 0), (23, .x 1), (2000004, .x 2000000)]) (thXv (v := St' ((cB z at_ ([u8 1, u8 0, u8 0, u8 1, u8 0, u8 0, u8 0, u8 0] ++ tl)).2.1)) rfl rfl (thXv (v := .int .i64 ((ndS ((cA z at_).2.1)))) rfl rfl (thXv (v := rwG reC ((cB z at_ ([u8 1, u8 0, u8 0, u8 1, u8 0, u8 0, u8 0, u8 0] ++ tl)).1)) rfl rfl (thNil)))) (by kernel_rfl)⟩) lfNil))) (by omega) (get_lps2 (by omega) (by omega) (get_lps2 (by omega) (by omega) fi13_at)) fi13_body (lfCons (lpKnown rfl ⟨0, keySa1, lfOkSa1_0 (l := lf404) (h := lh404) z (0, (0 : Int)) (mkISa1 z 0 (0 : Int) ⟨by omega, by omega, by omega, by assumption, by omega⟩) rfl (by kernel_rfl) (th0 := [(0, .i .i64 (.ofNat 0)), (2000000, .x 2000006), (2000001, .x 2000002)]) (sg0 := []) (fun X => thCons (show Is _ (.i .i64 (.ofNat 0)) (.int .i64 ((0 : Int))) from isTo (v := .int .i64 0) (isI _ _) (by first | rfl | (congr 1; omega))) (thXe (v := rwG reC ((cA z at_).1 ++ (cB z at_ ([u8 1, u8 0, u8 0, u8 1, u8 0, u8 0, u8 0, u8 0] ++ tl)).1)) (u := rwG reC z) rfl rfl (congrArg (rwG reC) (hc2.1)) (thXv (v := rwG reC z) rfl rfl (thNil)))) (by kernel_rfl) (thx := [(2000007, .x 2000000), (2000008, .x 2000001)]) (thXe (v := rwG reC z) (u := rwG reC ((cA z at_).1 ++ (cB z at_ ([u8 1, u8 0, u8 0, u8 1, u8 0, u8 0, u8 0, u8 0] ++ tl)).1)) rfl rfl ((congrArg (rwG reC) (hc2.1)).symm) (thXv (v := rwG reC z) rfl rfl (thNil))) (by kernel_rfl)⟩) lfNil)) rfl (get_lps2 (by omega) (by omega) (get_lps2 (by omega) (by omega) (get_lps (by omega)))) fiB3 [.r 2000000 26 4 true] [⟨blk_z, base_z, z.length, es_z⟩] (fun e => run20 e ) (args := [.slice (some ⟨blk_z, base_z, none⟩) z.length es_z, .int .u8 kd, St' tl, .int .u8 at_]) ⟨_, _, rfl, relSrN (by decide) rfl w_z.room, ⟨_, _, rfl, rfl, ⟨_, _, rfl, rfl, ⟨_, _, rfl, rfl, rfl⟩⟩⟩⟩ w hl rfl (by decide) (fun e => (argsCons (w_z.arg (g_z e ) rfl) argsNil)) rfl
end Go.Proofs.YtlfmfmegnenohaaDoor.cutterStops
