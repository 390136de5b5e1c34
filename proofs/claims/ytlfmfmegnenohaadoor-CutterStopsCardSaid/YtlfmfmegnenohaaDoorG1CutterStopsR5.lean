/- A part of the proof: an interpreter of the model's own code on partly known states, and that what it answers is what the program answers. No condition of its own. -/
import Derived.Test.YtlfmfmegnenohaaDoorG1CutterStopsO7
set_option maxRecDepth 100000
set_option linter.unusedVariables false
set_option linter.unusedSimpArgs false
set_option maxHeartbeats 4000000
namespace Go.Proofs.YtlfmfmegnenohaaDoor.cutterStops
open Go Go.AX Go.Proofs Go.Proofs.YtlfmfmegnenohaaDoor
def hy15 : LK := [(.bytes [], .x 3),
  (.rn, .x 2000000),
  (.len (.x 1), .x 4),
  (.bin .gtr (.x 4) (.i .i64 (.ofNat 100)), .b false),
  (.bin .rem (.x 0) (.i .u8 (.ofNat 3)), .x 5),
  (.tab [.s 1 7, .s 6 4311746049, .s 8 16777217] (.x 5), .s 8 16777217),
  (.tab [.i .i64 (.ofNat 13), .i .i64 (.ofNat 12), .i .i64 (.ofNat 10)] (.x 5), .i .i64 (.ofNat 10)),
  (.conv 3 (.x 2), .x 6),
  (.mm false (.i .i64 (.ofNat 0)) (.x 6), .i .i64 (.ofNat 0)),
  (.len (.x 3), .i .i64 (.ofNat 0)),
  (.bin .neq (.x 3) (.s 0 0), .b false),
  (.fit (.x 3), .b true),
  (.call 20 [.x 3], .i .i64 (.ofNat 1)),
  (.bin .add (.s 8 16777217) (.x 1), .x 7),
  (.bin .add (.x 3) (.x 7), .x 8),
  (.fit (.x 8), .b true),
  (.len (.x 8), .x 9),
  (.bin .lss (.x 9) (.i .i64 (.ofNat 1)), .b false),
  (.bin .geq (.x 9) (.i .i64 (.ofNat 6)), .b true),
  (.idx (.x 8) (.i .i64 (.ofNat 0)), .i .u8 (.ofNat 1)),
  (.idx (.x 8) (.i .i64 (.ofNat 4)), .i .u8 (.ofNat 0)),
  (.idx (.x 8) (.i .i64 (.ofNat 5)), .i .u8 (.ofNat 0)),
  (.bin .neq (.x 8) (.s 0 0), .b true),
  (.bin .lss (.x 9) (.i .i64 (.ofNat 8)), .b false),
  (.idx (.x 8) (.i .i64 (.ofNat 6)), .i .u8 (.ofNat 0)),
  (.idx (.x 8) (.i .i64 (.ofNat 1)), .i .u8 (.ofNat 0))]
theorem run15 (e : Nat) : Go.AX.okB (call (tbl hy15) 9000 3 [.es, .x 0, .x 1, .x 2] ⟨H0 e , 1, 0, 0⟩) = true := by kernel_rfl
def nu15 (ad_z : Addr) (kd : Int) (tl : LB) (at_ : Int) : List Value := [.int .u8 (kd),
  St' tl,
  .int .u8 (at_),
  St' ([] : LB),
  .int .i64 ((tl.length : Int)),
  .int .u8 (kd % 3),
  .int .i64 (at_),
  St' ([u8 1, u8 0, u8 0, u8 1, u8 0, u8 0, u8 0, u8 0] ++ tl),
  St' ([u8 1, u8 0, u8 0, u8 1, u8 0, u8 0, u8 0, u8 0] ++ tl),
  .int .i64 ((tl.length : Int) + 8)]
def ro15 (ad_z : Addr) (kd : Int) (tl : LB) (at_ : Int) : List Value := [rwS ([] : List LB)]
theorem on15 (ad_z : Addr) (kd : Int) (tl : LB) (at_ : Int) : ∀ j, (nuL (nu15 ad_z kd tl at_) j).oneCell' = true := nuL_one (l := nu15 ad_z kd tl at_) rfl
theorem path15 (ad_z : Addr) (kd : Int) (tl : LB) (at_ : Int) (b0 : 0 ≤ kd) (b1 : kd ≤ 255) (b2 : tl.length ≤ 9223372036854775807) (b3 : 0 ≤ at_) (b4 : at_ ≤ 255) (h0 : ¬ (100 < (tl.length : Int))) (h1 : kd % 3 = 2) (w : World) (hl : laidE w) : CwR 3 #[.slice (some ad_z) 0 0, .int .u8 kd, St' tl, .int .u8 at_] w (.bool true) := by
  have ho : ∀ k r, (k, r) ∈ hy15 → HOk (cx (nuX (nu15 ad_z kd tl at_) (rX (ro15 ad_z kd tl at_) (fun _ => .bool true))) (nuX_one (on15 ad_z kd tl at_)) 1 laidE laidE_stab) k r := by
    unfold hy15
    exact hc (kBytesB (bs := ([] : LB)) .nil (denX rfl)) <|
     hc (kRn (denX rfl)) <|
     hc (lnV rfl rfl (by omega)) <|
     hc (gtcF rfl (by omega)) <|
     hc (kRem (isX rfl) (isZ (m := 3) rfl) (denX rfl) (by omega) (by omega) rfl) <|
     hc (kTabK (j := 2) (isX rfl) (by omega) rfl) <|
     hc (kTabK (j := 2) (isX rfl) (by omega) rfl) <|
     hc (kConvF (isX rfl) tu3 (denX rfl) (fI64 (by omega) (by omega))) <|
     hc (kMin (isZ (m := 0) rfl) (isX rfl) (denZ (m := 0) rfl) (by omega)) <|
     hc (kLenE (isX rfl) (denZ (m := 0) rfl) rfl) <|
     hc (kNeS (isX rfl) (isSx (l := ([] : LB)) 0 0 rfl) (bnF (decide_eq_true rfl))) <|
     hc (kFit (isX rfl) (by first | omega | (simp <;> omega))) <|
     hc (hokNds (isX rfl) (denZ (m := ndS []) rfl) (by simp)) <|
     hc (kCat (isSx (l := [u8 1, u8 0, u8 0, u8 1, u8 0, u8 0, u8 0, u8 0]) 8 16777217 rfl) (isX rfl) (denX rfl) (by first | rfl | (simp; done)) (by first | omega | (simp <;> omega))) <|
     hc (kCat (isX rfl) (isX rfl) (denX rfl) (by first | rfl | (simp; done)) (by first | omega | (simp <;> omega))) <|
     hc (kFit (isX rfl) (by first | omega | (simp <;> omega))) <|
     hc (lnV rfl rfl (by first | omega | (simp <;> omega))) <|
     hc (ltcF rfl (by omega)) <|
     hc (gecT rfl (by omega)) <|
     hc (kIdxE (i := 0) (isX rfl) (isZ (m := 0) rfl) (denZ (m := 1) rfl) rfl (by first | omega | (simp <;> omega)) (bt_at rfl (by omega) (by omega))) <|
     hc (kIdxE (i := 4) (isX rfl) (isZ (m := 4) rfl) (denZ (m := 0) rfl) rfl (by first | omega | (simp <;> omega)) (bt_at rfl (by omega) (by omega))) <|
     hc (kIdxE (i := 5) (isX rfl) (isZ (m := 5) rfl) (denZ (m := 0) rfl) rfl (by first | omega | (simp <;> omega)) (bt_at rfl (by omega) (by omega))) <|
     hc (kNeS (isX rfl) (isSx (l := ([] : LB)) 0 0 rfl) (bnT (nilF (by first | omega | (simp <;> omega))))) <|
     hc (ltcF rfl (by omega)) <|
     hc (kIdxE (i := 6) (isX rfl) (isZ (m := 6) rfl) (denZ (m := 0) rfl) rfl (by first | omega | (simp <;> omega)) (bt_at rfl (by omega) (by omega))) <|
     hc (kIdxE (i := 1) (isX rfl) (isZ (m := 1) rfl) (denZ (m := 0) rfl) rfl (by first | omega | (simp <;> omega)) (bt_at rfl (by omega) (by omega))) <|
     hnil
  obtain ⟨fi, hfi, hb⟩ := fiE
  exact runP (tb := (tbl hy15)) ((tabkOk (nuX (nu15 ad_z kd tl at_) (rX (ro15 ad_z kd tl at_) (fun _ => .bool true))) (nuX_one (on15 ad_z kd tl at_))).hyps ho) rfl hfi hb (fun e => run15 e ) (args := [.slice (some ad_z) 0 0, .int .u8 kd, St' tl, .int .u8 at_]) (by simp only [RelL, Rel]; exact ⟨_, _, rfl, ⟨_, _, rfl⟩, ⟨_, _, rfl, rfl, ⟨_, _, rfl, rfl, ⟨_, _, rfl, rfl, rfl⟩⟩⟩⟩) w hl
def hy16 : LK := [(.bytes [], .x 3),
  (.rn, .x 2000001),
  (.rl (.x 2000000) 4, .x 4),
  (.bin .gtr (.x 4) (.i .i64 (.ofNat 6)), .b false),
  (.len (.x 1), .x 5),
  (.bin .gtr (.x 5) (.i .i64 (.ofNat 100)), .b false),
  (.bin .rem (.x 0) (.i .u8 (.ofNat 3)), .x 7),
  (.tab [.s 1 7, .s 6 4311746049, .s 8 16777217] (.x 7), .s 8 16777217),
  (.tab [.i .i64 (.ofNat 13), .i .i64 (.ofNat 12), .i .i64 (.ofNat 10)] (.x 7), .i .i64 (.ofNat 10)),
  (.len (.x 6), .x 8),
  (.conv 3 (.x 2), .x 9),
  (.mm false (.x 8) (.x 9), .x 10),
  (.sub (.x 6) none (some (.x 10)), .s 0 0),
  (.fit (.x 11), .b true),
  (.call 20 [.x 11], .i .i64 (.ofNat 1)),
  (.sub (.x 6) (some (.x 10)) none, .x 12),
  (.bin .add (.x 12) (.s 8 16777217), .x 13),
  (.bin .add (.x 13) (.x 1), .x 14),
  (.bin .add (.x 11) (.x 14), .x 15),
  (.fit (.x 15), .b true),
  (.len (.x 15), .x 16),
  (.bin .lss (.x 16) (.i .i64 (.ofNat 1)), .b false),
  (.rl (.x 2000002) 4, .x 19),
  (.bin .neq (.i .i64 (.ofNat 0)) (.x 19), .b false)]
def lh293 : LH := ⟨1, 2, 2, [(1, .r 2000000 26 4 true)], [(1, .r 2000002 26 4 true)]⟩
def lf293 : LF := ⟨7, 125, [(0, .sr 1), (9, .s 0 0), (10, .i .i64 (.ofNat 0))], [1, 2, 3], (.exit 0), [(0, .sr 1), (9, .x 6)], some lh293⟩
def lh294 : LH := ⟨1, 20, 80, [(2, .b ⟨53, .l [.i .i64 (.ofNat 200), .nils, .i .i64 (.ofNat 0), .b false], 0, 0, 0, false, false⟩)], [(2, .b ⟨53, .l [.i .i64 (.ofNat 200), .nils, .i .i64 (.ofNat 0), .b false], 0, 0, 0, false, false⟩)]⟩
def lf294 : LF := ⟨2, 38, [(0, .p 2 0), (1, .x 3), (7, .nils)], [], .ret, [(4, .nils), (5, .x 11), (6, .ni)], some lh294⟩
def lh295 : LH := ⟨1, 120, 180, [(2, .b ⟨53, .l [.i .i64 (.ofNat 200), .sy 81, .i .i64 (.ofNat 1), .b false], 0, 0, 0, false, false⟩), (81, .t 15 5)], [(2, .b ⟨53, .l [.i .i64 (.ofNat 200), .sy 121, .x 18, .b false], 0, 0, 0, false, false⟩)]⟩
def lf295 : LF := ⟨2, 38, [(0, .p 2 0), (1, .x 15), (7, .nils)], [], .ret, [(4, .nils), (5, .x 17), (6, .ifc 68 (.ag [.i .i64 (.ofNat 10), .s 35 883751524516594027940889836758751821087985845510287451484159566615753519918736505186]))], some lh295⟩
noncomputable def tab16 : Tab := addLps (addLps ({ tabk with hyp := hy16 }) 3 fi3 [lf293]) 19 fi19 [lf294, lf295]
theorem run16 (e : Nat) : Go.AX.okB (call tab16 9000 3 [.sr 1, .x 0, .x 1, .x 2] ⟨addR 1 [.r 2000000 26 4 true] (H0 e ), 1 + List.length (α := Ent) [.r 2000000 26 4 true], 0, 0⟩) = true := by kernel_rfl
def nu16 (blk_z : Nat) (base_z : Nat) (es_z : Nat) (z : List (Int × Int × LB × Int)) (kd : Int) (tl : LB) (at_ : Int) : List Value := [.int .u8 (kd),
  St' tl,
  .int .u8 (at_),
  St' ([] : LB),
  .int .i64 ((z.length : Int)),
  .int .i64 ((tl.length : Int)),
  St' (rbS z),
  .int .u8 (kd % 3),
  .int .i64 (((rbS z).length : Int)),
  .int .i64 (at_),
  .int .i64 ((kA z at_)),
  St' ([] : LB),
  St' (dA z at_),
  St' ((dA z at_) ++ [u8 1, u8 0, u8 0, u8 1, u8 0, u8 0, u8 0, u8 0]),
  St' ((dA z at_) ++ ([u8 1, u8 0, u8 0, u8 1, u8 0, u8 0, u8 0, u8 0] ++ tl)),
  St' ((dA z at_) ++ ([u8 1, u8 0, u8 0, u8 1, u8 0, u8 0, u8 0, u8 0] ++ tl)),
  .int .i64 (((rbS z).length : Int) + (tl.length : Int) + 8 - (kA z at_)),
  St' ((cM z at_ ([u8 1, u8 0, u8 0, u8 1, u8 0, u8 0, u8 0, u8 0] ++ tl)).2.1),
  .int .i64 (1),
  .int .i64 ((z.length : Int))]
def ro16 (blk_z : Nat) (base_z : Nat) (es_z : Nat) (z : List (Int × Int × LB × Int)) (kd : Int) (tl : LB) (at_ : Int) : List Value := [rwG reC z,
  rwS ([] : List LB),
  rwG reC z]
theorem on16 (blk_z : Nat) (base_z : Nat) (es_z : Nat) (z : List (Int × Int × LB × Int)) (kd : Int) (tl : LB) (at_ : Int) : ∀ j, (nuL (nu16 blk_z base_z es_z z kd tl at_) j).oneCell' = true := nuL_one (l := nu16 blk_z base_z es_z z kd tl at_) rfl
theorem path16 (blk_z : Nat) (base_z : Nat) (es_z : Nat) (z : List (Int × Int × LB × Int)) (kd : Int) (tl : LB) (at_ : Int) (b0 : ∀ n, n ∈ z → reB n) (b1 : z.length ≤ 9223372036854775807) (b2 : 0 ≤ kd) (b3 : kd ≤ 255) (b4 : tl.length ≤ 9223372036854775807) (b5 : 0 ≤ at_) (b6 : at_ ≤ 255) (h0 : ¬ (6 < (z.length : Int))) (h1 : ¬ (100 < (tl.length : Int))) (h2 : okR 100 z) (h3 : kd % 3 = 2) (h4 : (kA z at_) = 0) (h6 : (cM z at_ ([u8 1, u8 0, u8 0, u8 1, u8 0, u8 0, u8 0, u8 0] ++ tl)).1.length = 0) (w : World) (hl : laidE w) (w_z : InRow w 4 (z.flatMap reC) blk_z base_z z.length es_z) (g_z : ∀ e, (H0 e ).get blk_z = none) : CwR 3 #[.slice (some ⟨blk_z, base_z, none⟩) z.length es_z, .int .u8 kd, St' tl, .int .u8 at_] w (.bool true) := by
  have hrl := rbS_len (b := 100) (by omega) z (by assumption)
  have hkA : kA z at_ = min ((rbS z).length : Int) at_ := rfl
  have hda := fD (z := z) (a := at_) (by omega)
  obtain ⟨hc2, hzl⟩ := fM (z := z) (a := at_) (by assumption) (by assumption) (cs_b2 (t := tl))
  have hwl : (((dA z at_) ++ ([u8 1, u8 0, u8 0, u8 1, u8 0, u8 0, u8 0, u8 0] ++ tl))).length ≤ 100000 := by simp only [List.length_append, List.length_cons, List.length_nil]; omega
  have ho : ∀ k r, (k, r) ∈ hy16 → HOk (cx (nuX (nu16 blk_z base_z es_z z kd tl at_) (rX (ro16 blk_z base_z es_z z kd tl at_) (fun _ => .bool true))) (nuX_one (on16 blk_z base_z es_z z kd tl at_)) 1 laidE laidE_stab) k r := by
    unfold hy16
    exact hc (kBytesB (bs := ([] : LB)) .nil (denX rfl)) <|
     hc (kRn (denX rfl)) <|
     hc (kRlG reC_len (isX rfl) (denX rfl) (by first | omega | (simp <;> omega))) <|
     hc (gtcF rfl (by omega)) <|
     hc (lnV rfl rfl (by omega)) <|
     hc (gtcF rfl (by omega)) <|
     hc (kRem (isX rfl) (isZ (m := 3) rfl) (denX rfl) (by omega) (by omega) rfl) <|
     hc (kTabK (j := 2) (isX rfl) (by omega) rfl) <|
     hc (kTabK (j := 2) (isX rfl) (by omega) rfl) <|
     hc (lnV rfl rfl (by omega)) <|
     hc (kConvF (isX rfl) tu3 (denX rfl) (fI64 (by omega) (by omega))) <|
     hc (kMin (isX rfl) (isX rfl) (denX rfl) rfl) <|
     hc (kMid (P := 0) (Q := (kA z at_)) (isX rfl) (.inl ⟨rfl, rfl⟩) (.inr ⟨_, _, rfl, (isX rfl)⟩) (by omega) (by omega) (by omega) (den0 (by omega))) <|
     hc (kFit (isX rfl) (by first | omega | (simp <;> omega))) <|
     hc (hokNds (isX rfl) (denZ (m := ndS []) rfl) (by simp)) <|
     hc (kMid (P := (kA z at_)) (Q := ((rbS z).length : Int)) (isX rfl) (.inr ⟨_, _, rfl, (isX rfl)⟩) (.inl ⟨rfl, rfl⟩) (by omega) (by omega) (by omega) (denX (congrArg (fun l => St' l) dropE))) <|
     hc (kCat (isX rfl) (isSx (l := [u8 1, u8 0, u8 0, u8 1, u8 0, u8 0, u8 0, u8 0]) 8 16777217 rfl) (denX rfl) (by first | rfl | (simp; done)) (by first | omega | (simp <;> omega))) <|
     hc (kCat (isX rfl) (isX rfl) (denX rfl) (by first | rfl | (simp; done)) (by first | omega | (simp <;> omega))) <|
     hc (kCat (isX rfl) (isX rfl) (denX rfl) (by first | rfl | (simp; done)) (by first | omega | (simp <;> omega))) <|
     hc (kFit (isX rfl) (by first | omega | (simp <;> omega))) <|
     hc (lnV rfl rfl (by first | omega | (simp <;> omega))) <|
     hc (ltcF rfl (by omega)) <|
     hc (kRlG reC_len (isX rfl) (denX rfl) (by first | omega | (simp <;> omega))) <|
     hc (kNeI (isZ (m := 0) rfl) (isX rfl) (neF (by omega))) <|
     hnil
  exact runPR (tb := tab16) (AllOk.lp1 (AllOk.lp1 ((tabkOk (nuX (nu16 blk_z base_z es_z z kd tl at_) (rX (ro16 blk_z base_z es_z z kd tl at_) (fun _ => .bool true))) (nuX_one (on16 blk_z base_z es_z z kd tl at_))).hyps ho) (by omega) fi3_at fi3_body (lfCons (lpKnown rfl ⟨0, keyLa, lfOkLa_0 (l := lf293) (h := lh293) z (by assumption) (0, (0 : Int), ([] : LB)) (mkILa z 0 (0 : Int) ([] : LB) ⟨by omega, by omega, by omega, by assumption, by simp, rfl, (fun r hr => nomatch hr), by omega⟩) rfl (by kernel_rfl) (th0 := [(0, .i .i64 (.ofNat 0)), (1, .s 0 0), (2000000, .x 2000000)]) (sg0 := []) (fun X => thCons (show Is _ (.i .i64 (.ofNat 0)) (.int .i64 ((0 : Int))) from isTo (v := .int .i64 0) (isI _ _) (by first | rfl | (congr 1; omega))) (thCons (show Is _ (.s 0 0) (St' ([] : LB)) from isTo (v := St' ([] : LB)) (isSx (l := ([] : LB)) 0 0 rfl) (by first | rfl | (simp; done))) (thXv (v := rwG reC z) rfl rfl (thNil)))) (by kernel_rfl) (thx := [(6, .x 0), (2000002, .x 2000000)]) (thXv (v := St' (rbS z)) rfl rfl (thXv (v := rwG reC z) rfl rfl (thNil))) (by kernel_rfl)⟩) lfNil)) (by omega) (get_lps2 (by omega) (by omega) fi19_at) fi19_body (lfCons (lpKnown rfl ⟨0, keyCe, lfOkCe_0 (l := lf294) (h := lh294) (0, (0 : Nat)) (mkICe 0 (0 : Nat) ⟨trivial, by omega⟩) rfl (by kernel_rfl) (th0 := [(0, .x 3)]) (sg0 := []) (fun X => thXv (v := St' ([] : LB)) rfl rfl (thNil)) (by kernel_rfl) (thx := [(11, .x 0)]) (thXv (v := St' ([] : LB)) rfl rfl (thNil)) (by kernel_rfl)⟩) (lfCons (lpKnown rfl ⟨0, keyCu1, lfOkCu1_0 (l := lf295) (h := lh295) ((cM z at_ ([u8 1, u8 0, u8 0, u8 1, u8 0, u8 0, u8 0, u8 0] ++ tl)).1) ((cM z at_ ([u8 1, u8 0, u8 0, u8 1, u8 0, u8 0, u8 0, u8 0] ++ tl)).2.1) ((cM z at_ ([u8 1, u8 0, u8 0, u8 1, u8 0, u8 0, u8 0, u8 0] ++ tl)).2.2) 1 hc2.2 (by omega) (0, ((dA z at_) ++ ([u8 1, u8 0, u8 0, u8 1, u8 0, u8 0, u8 0, u8 0] ++ tl)), []) (mkICu1 ((cM z at_ ([u8 1, u8 0, u8 0, u8 1, u8 0, u8 0, u8 0, u8 0] ++ tl)).1) ((cM z at_ ([u8 1, u8 0, u8 0, u8 1, u8 0, u8 0, u8 0, u8 0] ++ tl)).2.1) ((cM z at_ ([u8 1, u8 0, u8 0, u8 1, u8 0, u8 0, u8 0, u8 0] ++ tl)).2.2) 1 0 ((dA z at_) ++ ([u8 1, u8 0, u8 0, u8 1, u8 0, u8 0, u8 0, u8 0] ++ tl)) [] ⟨by first | omega | (simp; done), rfl, rfl, rfl, by simp only [List.length_nil]; omega, fun _ => rfl, fun h => by omega, by omega⟩) rfl (by kernel_rfl) (th0 := [(0, .x 15), (1, .i .i64 (.ofNat 1))]) (sg0 := [(121, 81)]) (fun X => thXv (v := St' ((dA z at_) ++ ([u8 1, u8 0, u8 0, u8 1, u8 0, u8 0, u8 0, u8 0] ++ tl))) rfl rfl (thCons (show Is _ (.i .i64 (.ofNat 1)) (.int .i64 (1)) from isTo (v := .int .i64 1) (isI _ _) (by first | rfl | (congr 1; omega))) (thNil))) (by kernel_rfl) (thx := [(17, .x 0), (18, .x 1)]) (thXv (v := St' ((cM z at_ ([u8 1, u8 0, u8 0, u8 1, u8 0, u8 0, u8 0, u8 0] ++ tl)).2.1)) rfl rfl (thXv (v := .int .i64 (1)) rfl rfl (thNil))) (by kernel_rfl)⟩) lfNil))) rfl (get_lps2 (by omega) (by omega) (get_lps (by omega))) fiB3 [.r 2000000 26 4 true] [⟨blk_z, base_z, z.length, es_z⟩] (fun e => run16 e ) (args := [.slice (some ⟨blk_z, base_z, none⟩) z.length es_z, .int .u8 kd, St' tl, .int .u8 at_]) ⟨_, _, rfl, relSrN (by decide) rfl w_z.room, ⟨_, _, rfl, rfl, ⟨_, _, rfl, rfl, ⟨_, _, rfl, rfl, rfl⟩⟩⟩⟩ w hl rfl (by decide) (fun e => (argsCons (w_z.arg (g_z e ) rfl) argsNil)) rfl
def hy17 : LK := [(.bytes [], .x 3),
  (.rn, .x 2000001),
  (.rl (.x 2000000) 4, .x 4),
  (.bin .gtr (.x 4) (.i .i64 (.ofNat 6)), .b false),
  (.len (.x 1), .x 5),
  (.bin .gtr (.x 5) (.i .i64 (.ofNat 100)), .b false),
  (.bin .rem (.x 0) (.i .u8 (.ofNat 3)), .x 7),
  (.tab [.s 1 7, .s 6 4311746049, .s 8 16777217] (.x 7), .s 8 16777217),
  (.tab [.i .i64 (.ofNat 13), .i .i64 (.ofNat 12), .i .i64 (.ofNat 10)] (.x 7), .i .i64 (.ofNat 10)),
  (.len (.x 6), .x 8),
  (.conv 3 (.x 2), .x 9),
  (.mm false (.x 8) (.x 9), .x 10),
  (.sub (.x 6) none (some (.x 10)), .s 0 0),
  (.fit (.x 11), .b true),
  (.call 20 [.x 11], .i .i64 (.ofNat 1)),
  (.sub (.x 6) (some (.x 10)) none, .x 12),
  (.bin .add (.x 12) (.s 8 16777217), .x 13),
  (.bin .add (.x 13) (.x 1), .x 14),
  (.bin .add (.x 11) (.x 14), .x 15),
  (.fit (.x 15), .b true),
  (.len (.x 15), .x 16),
  (.bin .lss (.x 16) (.i .i64 (.ofNat 1)), .b false),
  (.rl (.x 2000003) 4, .x 19),
  (.bin .gtr (.x 19) (.i .i64 (.ofNat 0)), .b true),
  (.rr (.x 2000001) (.x 2000003), .x 2000004),
  (.rf (.x 2000004) 4 40, .b true),
  (.rl (.x 2000004) 4, .x 20),
  (.rl (.x 2000002) 4, .x 21),
  (.bin .neq (.x 20) (.x 21), .b false)]
def lh329 : LH := ⟨1, 2, 2, [(1, .r 2000000 26 4 true)], [(1, .r 2000002 26 4 true)]⟩
def lf329 : LF := ⟨7, 125, [(0, .sr 1), (9, .s 0 0), (10, .i .i64 (.ofNat 0))], [1, 2, 3], (.exit 0), [(0, .sr 1), (9, .x 6)], some lh329⟩
def lh330 : LH := ⟨1, 20, 80, [(2, .b ⟨53, .l [.i .i64 (.ofNat 200), .nils, .i .i64 (.ofNat 0), .b false], 0, 0, 0, false, false⟩)], [(2, .b ⟨53, .l [.i .i64 (.ofNat 200), .nils, .i .i64 (.ofNat 0), .b false], 0, 0, 0, false, false⟩)]⟩
def lf330 : LF := ⟨2, 38, [(0, .p 2 0), (1, .x 3), (7, .nils)], [], .ret, [(4, .nils), (5, .x 11), (6, .ni)], some lh330⟩
def lh331 : LH := ⟨1, 120, 180, [(2, .b ⟨53, .l [.i .i64 (.ofNat 200), .sy 81, .i .i64 (.ofNat 1), .b false], 0, 0, 0, false, false⟩), (81, .t 15 5)], [(2, .b ⟨53, .l [.i .i64 (.ofNat 200), .sy 121, .x 18, .b false], 0, 0, 0, false, false⟩), (120, .r 2000003 26 4 false)]⟩
def lf331 : LF := ⟨2, 38, [(0, .p 2 0), (1, .x 15), (7, .nils)], [], .ret, [(4, .sr 120), (5, .x 17), (6, .ifc 68 (.ag [.i .i64 (.ofNat 10), .s 35 883751524516594027940889836758751821087985845510287451484159566615753519918736505186]))], some lh331⟩
def lh332 : LH := ⟨1, 183, 183, [(180, .r 2000004 26 4 false), (1, .r 2000002 26 4 true)], [(180, .r 2000005 26 4 false), (1, .r 2000006 26 4 true)]⟩
def lf332 : LF := ⟨4, 26, [(0, .sr 180), (1, .sr 1), (5, .i .i64 (.ofNat 0))], [], (.exit 0), [], some lh332⟩
noncomputable def tab17 : Tab := addLps (addLps (addLps ({ tabk with hyp := hy17 }) 3 fi3 [lf329]) 19 fi19 [lf330, lf331]) 13 fi13 [lf332]
theorem run17 (e : Nat) : Go.AX.okB (call tab17 9000 3 [.sr 1, .x 0, .x 1, .x 2] ⟨addR 1 [.r 2000000 26 4 true] (H0 e ), 1 + List.length (α := Ent) [.r 2000000 26 4 true], 0, 0⟩) = true := by kernel_rfl
def nu17 (blk_z : Nat) (base_z : Nat) (es_z : Nat) (z : List (Int × Int × LB × Int)) (kd : Int) (tl : LB) (at_ : Int) : List Value := [.int .u8 (kd),
  St' tl,
  .int .u8 (at_),
  St' ([] : LB),
  .int .i64 ((z.length : Int)),
  .int .i64 ((tl.length : Int)),
  St' (rbS z),
  .int .u8 (kd % 3),
  .int .i64 (((rbS z).length : Int)),
  .int .i64 (at_),
  .int .i64 ((kA z at_)),
  St' ([] : LB),
  St' (dA z at_),
  St' ((dA z at_) ++ [u8 1, u8 0, u8 0, u8 1, u8 0, u8 0, u8 0, u8 0]),
  St' ((dA z at_) ++ ([u8 1, u8 0, u8 0, u8 1, u8 0, u8 0, u8 0, u8 0] ++ tl)),
  St' ((dA z at_) ++ ([u8 1, u8 0, u8 0, u8 1, u8 0, u8 0, u8 0, u8 0] ++ tl)),
  .int .i64 (((rbS z).length : Int) + (tl.length : Int) + 8 - (kA z at_)),
  St' ((cM z at_ ([u8 1, u8 0, u8 0, u8 1, u8 0, u8 0, u8 0, u8 0] ++ tl)).2.1),
  .int .i64 (1),
  .int .i64 (((cM z at_ ([u8 1, u8 0, u8 0, u8 1, u8 0, u8 0, u8 0, u8 0] ++ tl)).1.length : Int)),
  .int .i64 (((cM z at_ ([u8 1, u8 0, u8 0, u8 1, u8 0, u8 0, u8 0, u8 0] ++ tl)).1.length : Int)),
  .int .i64 ((z.length : Int))]
def ro17 (blk_z : Nat) (base_z : Nat) (es_z : Nat) (z : List (Int × Int × LB × Int)) (kd : Int) (tl : LB) (at_ : Int) : List Value := [rwG reC z,
  rwS ([] : List LB),
  rwG reC z,
  rwG reC ((cM z at_ ([u8 1, u8 0, u8 0, u8 1, u8 0, u8 0, u8 0, u8 0] ++ tl)).1),
  rwG reC ((cM z at_ ([u8 1, u8 0, u8 0, u8 1, u8 0, u8 0, u8 0, u8 0] ++ tl)).1),
  rwG reC ((cM z at_ ([u8 1, u8 0, u8 0, u8 1, u8 0, u8 0, u8 0, u8 0] ++ tl)).1),
  rwG reC z]
theorem on17 (blk_z : Nat) (base_z : Nat) (es_z : Nat) (z : List (Int × Int × LB × Int)) (kd : Int) (tl : LB) (at_ : Int) : ∀ j, (nuL (nu17 blk_z base_z es_z z kd tl at_) j).oneCell' = true := nuL_one (l := nu17 blk_z base_z es_z z kd tl at_) rfl
theorem path17 (blk_z : Nat) (base_z : Nat) (es_z : Nat) (z : List (Int × Int × LB × Int)) (kd : Int) (tl : LB) (at_ : Int) (b0 : ∀ n, n ∈ z → reB n) (b1 : z.length ≤ 9223372036854775807) (b2 : 0 ≤ kd) (b3 : kd ≤ 255) (b4 : tl.length ≤ 9223372036854775807) (b5 : 0 ≤ at_) (b6 : at_ ≤ 255) (h0 : ¬ (6 < (z.length : Int))) (h1 : ¬ (100 < (tl.length : Int))) (h2 : okR 100 z) (h3 : kd % 3 = 2) (h4 : (kA z at_) = 0) (h6 : ¬ ((cM z at_ ([u8 1, u8 0, u8 0, u8 1, u8 0, u8 0, u8 0, u8 0] ++ tl)).1.length = 0)) (w : World) (hl : laidE w) (w_z : InRow w 4 (z.flatMap reC) blk_z base_z z.length es_z) (g_z : ∀ e, (H0 e ).get blk_z = none) : CwR 3 #[.slice (some ⟨blk_z, base_z, none⟩) z.length es_z, .int .u8 kd, St' tl, .int .u8 at_] w (.bool true) := by
  have hrl := rbS_len (b := 100) (by omega) z (by assumption)
  have hkA : kA z at_ = min ((rbS z).length : Int) at_ := rfl
  have hda := fD (z := z) (a := at_) (by omega)
  obtain ⟨hc2, hzl⟩ := fM (z := z) (a := at_) (by assumption) (by assumption) (cs_b2 (t := tl))
  have hwl : (((dA z at_) ++ ([u8 1, u8 0, u8 0, u8 1, u8 0, u8 0, u8 0, u8 0] ++ tl))).length ≤ 100000 := by simp only [List.length_append, List.length_cons, List.length_nil]; omega
  have ho : ∀ k r, (k, r) ∈ hy17 → HOk (cx (nuX (nu17 blk_z base_z es_z z kd tl at_) (rX (ro17 blk_z base_z es_z z kd tl at_) (fun _ => .bool true))) (nuX_one (on17 blk_z base_z es_z z kd tl at_)) 1 laidE laidE_stab) k r := by
    unfold hy17
    exact hc (kBytesB (bs := ([] : LB)) .nil (denX rfl)) <|
     hc (kRn (denX rfl)) <|
     hc (kRlG reC_len (isX rfl) (denX rfl) (by first | omega | (simp <;> omega))) <|
     hc (gtcF rfl (by omega)) <|
     hc (lnV rfl rfl (by omega)) <|
     hc (gtcF rfl (by omega)) <|
     hc (kRem (isX rfl) (isZ (m := 3) rfl) (denX rfl) (by omega) (by omega) rfl) <|
     hc (kTabK (j := 2) (isX rfl) (by omega) rfl) <|
     hc (kTabK (j := 2) (isX rfl) (by omega) rfl) <|
     hc (lnV rfl rfl (by omega)) <|
     hc (kConvF (isX rfl) tu3 (denX rfl) (fI64 (by omega) (by omega))) <|
     hc (kMin (isX rfl) (isX rfl) (denX rfl) rfl) <|
     hc (kMid (P := 0) (Q := (kA z at_)) (isX rfl) (.inl ⟨rfl, rfl⟩) (.inr ⟨_, _, rfl, (isX rfl)⟩) (by omega) (by omega) (by omega) (den0 (by omega))) <|
     hc (kFit (isX rfl) (by first | omega | (simp <;> omega))) <|
     hc (hokNds (isX rfl) (denZ (m := ndS []) rfl) (by simp)) <|
     hc (kMid (P := (kA z at_)) (Q := ((rbS z).length : Int)) (isX rfl) (.inr ⟨_, _, rfl, (isX rfl)⟩) (.inl ⟨rfl, rfl⟩) (by omega) (by omega) (by omega) (denX (congrArg (fun l => St' l) dropE))) <|
     hc (kCat (isX rfl) (isSx (l := [u8 1, u8 0, u8 0, u8 1, u8 0, u8 0, u8 0, u8 0]) 8 16777217 rfl) (denX rfl) (by first | rfl | (simp; done)) (by first | omega | (simp <;> omega))) <|
     hc (kCat (isX rfl) (isX rfl) (denX rfl) (by first | rfl | (simp; done)) (by first | omega | (simp <;> omega))) <|
     hc (kCat (isX rfl) (isX rfl) (denX rfl) (by first | rfl | (simp; done)) (by first | omega | (simp <;> omega))) <|
     hc (kFit (isX rfl) (by first | omega | (simp <;> omega))) <|
     hc (lnV rfl rfl (by first | omega | (simp <;> omega))) <|
     hc (ltcF rfl (by omega)) <|
     hc (kRlG reC_len (isX rfl) (denX rfl) (by first | omega | (simp <;> omega))) <|
     hc (gtcT rfl (by omega)) <|
     hc (kRr (f := reC) (l := []) (m := (cM z at_ ([u8 1, u8 0, u8 0, u8 1, u8 0, u8 0, u8 0, u8 0] ++ tl)).1) (isX rfl) (isX rfl) (denX rfl)) <|
     hc (kRfG reC_len (isX rfl) (by first | (rw [List.length_append]; omega) | (first | omega | (simp <;> omega))) (by first | (rw [List.length_append]; omega) | (first | omega | (simp <;> omega)))) <|
     hc (kRlG reC_len (isX rfl) (denX rfl) (by first | omega | (simp <;> omega))) <|
     hc (kRlG reC_len (isX rfl) (denX rfl) (by first | omega | (simp <;> omega))) <|
     hc (kNeI (isX rfl) (isX rfl) (neF (by omega))) <|
     hnil
  exact runPR (tb := tab17) (AllOk.lp1 (AllOk.lp1 (AllOk.lp1 ((tabkOk (nuX (nu17 blk_z base_z es_z z kd tl at_) (rX (ro17 blk_z base_z es_z z kd tl at_) (fun _ => .bool true))) (nuX_one (on17 blk_z base_z es_z z kd tl at_))).hyps ho) (by omega) fi3_at fi3_body (lfCons (lpKnown rfl ⟨0, keyLa, lfOkLa_0 (l := lf329) (h := lh329) z (by assumption) (0, (0 : Int), ([] : LB)) (mkILa z 0 (0 : Int) ([] : LB) ⟨by omega, by omega, by omega, by assumption, by simp, rfl, (fun r hr => nomatch hr), by omega⟩) rfl (by kernel_rfl) (th0 := [(0, .i .i64 (.ofNat 0)), (1, .s 0 0), (2000000, .x 2000000)]) (sg0 := []) (fun X => thCons (show Is _ (.i .i64 (.ofNat 0)) (.int .i64 ((0 : Int))) from isTo (v := .int .i64 0) (isI _ _) (by first | rfl | (congr 1; omega))) (thCons (show Is _ (.s 0 0) (St' ([] : LB)) from isTo (v := St' ([] : LB)) (isSx (l := ([] : LB)) 0 0 rfl) (by first | rfl | (simp; done))) (thXv (v := rwG reC z) rfl rfl (thNil)))) (by kernel_rfl) (thx := [(6, .x 0), (2000002, .x 2000000)]) (thXv (v := St' (rbS z)) rfl rfl (thXv (v := rwG reC z) rfl rfl (thNil))) (by kernel_rfl)⟩) lfNil)) (by omega) (get_lps2 (by omega) (by omega) fi19_at) fi19_body (lfCons (lpKnown rfl ⟨0, keyCe, lfOkCe_0 (l := lf330) (h := lh330) (0, (0 : Nat)) (mkICe 0 (0 : Nat) ⟨trivial, by omega⟩) rfl (by kernel_rfl) (th0 := [(0, .x 3)]) (sg0 := []) (fun X => thXv (v := St' ([] : LB)) rfl rfl (thNil)) (by kernel_rfl) (thx := [(11, .x 0)]) (thXv (v := St' ([] : LB)) rfl rfl (thNil)) (by kernel_rfl)⟩) (lfCons (lpKnown rfl ⟨0, keyCu1, lfOkCu1_1 (l := lf331) (h := lh331) ((cM z at_ ([u8 1, u8 0, u8 0, u8 1, u8 0, u8 0, u8 0, u8 0] ++ tl)).1) ((cM z at_ ([u8 1, u8 0, u8 0, u8 1, u8 0, u8 0, u8 0, u8 0] ++ tl)).2.1) ((cM z at_ ([u8 1, u8 0, u8 0, u8 1, u8 0, u8 0, u8 0, u8 0] ++ tl)).2.2) 1 hc2.2 (by omega) (0, ((dA z at_) ++ ([u8 1, u8 0, u8 0, u8 1, u8 0, u8 0, u8 0, u8 0] ++ tl)), []) (mkICu1 ((cM z at_ ([u8 1, u8 0, u8 0, u8 1, u8 0, u8 0, u8 0, u8 0] ++ tl)).1) ((cM z at_ ([u8 1, u8 0, u8 0, u8 1, u8 0, u8 0, u8 0, u8 0] ++ tl)).2.1) ((cM z at_ ([u8 1, u8 0, u8 0, u8 1, u8 0, u8 0, u8 0, u8 0] ++ tl)).2.2) 1 0 ((dA z at_) ++ ([u8 1, u8 0, u8 0, u8 1, u8 0, u8 0, u8 0, u8 0] ++ tl)) [] ⟨by first | omega | (simp; done), rfl, rfl, rfl, by simp only [List.length_nil]; omega, fun _ => rfl, fun h => by omega, by omega⟩) rfl (by kernel_rfl) (th0 := [(0, .x 15), (1, .i .i64 (.ofNat 1))]) (sg0 := [(121, 81)]) (fun X => thXv (v := St' ((dA z at_) ++ ([u8 1, u8 0, u8 0, u8 1, u8 0, u8 0, u8 0, u8 0] ++ tl))) rfl rfl (thCons (show Is _ (.i .i64 (.ofNat 1)) (.int .i64 (1)) from isTo (v := .int .i64 1) (isI _ _) (by first | rfl | (congr 1; omega))) (thNil))) (by kernel_rfl) (thx := [(17, .x 0), (18, .x 1), (2000003, .x 2000000)]) (thXv (v := St' ((cM z at_ ([u8 1, u8 0, u8 0, u8 1, u8 0, u8 0, u8 0, u8 0] ++ tl)).2.1)) rfl rfl (thXv (v := .int .i64 (1)) rfl rfl (thXv (v := rwG reC ((cM z at_ ([u8 1, u8 0, u8 0, u8 1, u8 0, u8 0, u8 0, u8 0] ++ tl)).1)) rfl rfl (thNil)))) (by kernel_rfl)⟩) lfNil))) (by omega) (get_lps2 (by omega) (by omega) (get_lps2 (by omega) (by omega) fi13_at)) fi13_body (lfCons (lpKnown rfl ⟨0, keySa0, lfOkSa0_0 (l := lf332) (h := lh332) z (0, (0 : Int)) (mkISa0 z 0 (0 : Int) ⟨by omega, by omega, by omega, by assumption, by omega⟩) rfl (by kernel_rfl) (th0 := [(0, .i .i64 (.ofNat 0)), (2000000, .x 2000004), (2000001, .x 2000002)]) (sg0 := []) (fun X => thCons (show Is _ (.i .i64 (.ofNat 0)) (.int .i64 ((0 : Int))) from isTo (v := .int .i64 0) (isI _ _) (by first | rfl | (congr 1; omega))) (thXe (v := rwG reC ((cM z at_ ([u8 1, u8 0, u8 0, u8 1, u8 0, u8 0, u8 0, u8 0] ++ tl)).1)) (u := rwG reC z) rfl rfl (congrArg (rwG reC) (hc2.1)) (thXv (v := rwG reC z) rfl rfl (thNil)))) (by kernel_rfl) (thx := [(2000005, .x 2000000), (2000006, .x 2000001)]) (thXe (v := rwG reC z) (u := rwG reC ((cM z at_ ([u8 1, u8 0, u8 0, u8 1, u8 0, u8 0, u8 0, u8 0] ++ tl)).1)) rfl rfl ((congrArg (rwG reC) (hc2.1)).symm) (thXv (v := rwG reC z) rfl rfl (thNil))) (by kernel_rfl)⟩) lfNil)) rfl (get_lps2 (by omega) (by omega) (get_lps2 (by omega) (by omega) (get_lps (by omega)))) fiB3 [.r 2000000 26 4 true] [⟨blk_z, base_z, z.length, es_z⟩] (fun e => run17 e ) (args := [.slice (some ⟨blk_z, base_z, none⟩) z.length es_z, .int .u8 kd, St' tl, .int .u8 at_]) ⟨_, _, rfl, relSrN (by decide) rfl w_z.room, ⟨_, _, rfl, rfl, ⟨_, _, rfl, rfl, ⟨_, _, rfl, rfl, rfl⟩⟩⟩⟩ w hl rfl (by decide) (fun e => (argsCons (w_z.arg (g_z e ) rfl) argsNil)) rfl
end Go.Proofs.YtlfmfmegnenohaaDoor.cutterStops
