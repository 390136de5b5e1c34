/- A part of the proof: an interpreter of the model's own code on partly known states, and that what it answers is what the program answers. No condition of its own. -/
import Derived.Test.YtlfmfmegnenohaaDoorG1CutterCutsO8
set_option maxRecDepth 100000
set_option linter.unusedVariables false
set_option linter.unusedSimpArgs false
set_option maxHeartbeats 4000000
namespace Go.Proofs.YtlfmfmegnenohaaDoor.cutterCuts
open Go Go.AX Go.Proofs Go.Proofs.YtlfmfmegnenohaaDoor
def hy6 : LK := [(.bytes [], .x 1),
  (.rn, .x 2000001),
  (.len (.x 0), .x 2),
  (.bin .gtr (.x 2) (.i .i64 (.ofNat 7)), .b false),
  (.bin .gtr (.x 2) (.i .i64 (.ofNat 0)), .b true),
  (.idx (.x 0) (.i .i64 (.ofNat 0)), .x 3),
  (.bin .neq (.x 3) (.i .u8 (.ofNat 1)), .b false),
  (.bin .add (.s 0 0) (.x 0), .x 4),
  (.byt (.x 4) (.i .i64 (.ofNat 0)), .x 5),
  (.fit (.x 4), .b true),
  (.len (.x 4), .x 6),
  (.bin .lss (.x 6) (.i .i64 (.ofNat 0)), .b false),
  (.bin .geq (.x 6) (.i .i64 (.ofNat 6)), .b false),
  (.bin .neq (.x 4) (.s 0 0), .b true),
  (.idx (.x 4) (.i .i64 (.ofNat 0)), .x 7),
  (.bin .neq (.x 7) (.i .u8 (.ofNat 1)), .b false),
  (.bin .lss (.x 6) (.i .i64 (.ofNat 8)), .b true),
  (.call 20 [.x 4], .x 8),
  (.bin .eql (.x 6) (.x 2), .b true),
  (.len (.x 9), .x 10),
  (.bin .eql (.x 10) (.x 2), .b true)]
def lh34 : LH := ⟨1, 300, 420, [(2, .r 2000000 5 1 true), (4, .b ⟨53, .l [.i .i64 (.ofNat 65535), .nils, .i .i64 (.ofNat 0), .b false], 0, 0, 0, false, false⟩)], [(2, .r 2000002 5 1 true), (302, .b ⟨53, .l [.i .i64 (.ofNat 65535), .sy 300, .und, .b false], 0, 0, 0, false, false⟩), (300, .t 9 5)]⟩
def lf34 : LF := ⟨19, 137, [(2, .sr 2), (7, .x 4), (10, .p 4 0), (13, .nils), (14, .i .i64 (.ofNat 0))], [0, 1, 9, 11, 12], (.exit 2), [(10, .p 302 0), (13, .nils)], some lh34⟩
noncomputable def tab6 : Tab := addLps ({ tabk with hyp := hy6 }) 4 fi4 [lf34]
theorem run6 (e : Nat) : Go.AX.okB (call tab6 9000 4 [.es, .x 0, .sr 2] ⟨addR 1 [.r 2000000 5 1 true, .r 2000000 5 1 true] (H0 e ), 1 + List.length (α := Ent) [.r 2000000 5 1 true, .r 2000000 5 1 true], 0, 0⟩) = true := by kernel_rfl
def nu6 (ad_z : Option Addr) (cp_z : Nat) (mo : LB) (blk_at_ : Nat) (base_at_ : Nat) (es_at_ : Nat) (at_ : List Int) : List Value := [St' mo,
  St' ([] : LB),
  .int .i64 ((mo.length : Int)),
  .int .u8 (bt mo 0),
  St' mo,
  .int .u8 (bt mo 0),
  .int .i64 ((mo.length : Int)),
  .int .u8 (bt mo 0),
  .int .i64 ((ndS mo)),
  St' ((cU mo).2.1),
  .int .i64 (((cU mo).2.1.length : Int))]
def ro6 (ad_z : Option Addr) (cp_z : Nat) (mo : LB) (blk_at_ : Nat) (base_at_ : Nat) (es_at_ : Nat) (at_ : List Int) : List Value := [rwI .u8 at_,
  rwS ([] : List LB),
  rwI .u8 at_]
theorem on6 (ad_z : Option Addr) (cp_z : Nat) (mo : LB) (blk_at_ : Nat) (base_at_ : Nat) (es_at_ : Nat) (at_ : List Int) : ∀ j, (nuL (nu6 ad_z cp_z mo blk_at_ base_at_ es_at_ at_) j).oneCell' = true := nuL_one (l := nu6 ad_z cp_z mo blk_at_ base_at_ es_at_ at_) rfl
theorem path6 (ad_z : Option Addr) (cp_z : Nat) (mo : LB) (blk_at_ : Nat) (base_at_ : Nat) (es_at_ : Nat) (at_ : List Int) (b0 : mo.length ≤ 9223372036854775807) (b1 : 1 ≤ at_.length) (b2 : ∀ n, n ∈ at_ → 0 ≤ n ∧ n ≤ 255) (b3 : at_.length ≤ 9223372036854775807) (h0 : ¬ (7 < (mo.length : Int))) (h1 : 0 < (mo.length : Int)) (h2 : bt mo 0 = 1) (h5 : ¬ (6 ≤ (mo.length : Int))) (w : World) (hl : laidE w) (w_at_ : InRow w 1 (at_.map (Value.int .u8)) blk_at_ base_at_ at_.length es_at_) (g_at_ : ∀ e, (H0 e ).get blk_at_ = none) : CwR 4 #[.slice ad_z 0 cp_z, St' mo, .slice (some ⟨blk_at_, base_at_, none⟩) at_.length es_at_] w (.bool true) := by
  have hn0 : ([] : LB).length = 0 := rfl
  have := bt_lo mo 0; have := bt_hi mo 0
  obtain ⟨hX1, hX2, hX3, hX4⟩ := fX1 (m := mo) (by omega) (by omega)
  have hX5 := congrArg List.length hX1; have hX6 := congrArg List.length hX2
  have hSl : (mo).length ≤ 10000 := by first | omega | (simp only [List.length_append]; omega)
  have ho : ∀ k r, (k, r) ∈ hy6 → HOk (cx (nuX (nu6 ad_z cp_z mo blk_at_ base_at_ es_at_ at_) (rX (ro6 ad_z cp_z mo blk_at_ base_at_ es_at_ at_) (fun _ => .bool true))) (nuX_one (on6 ad_z cp_z mo blk_at_ base_at_ es_at_ at_)) 1 laidE laidE_stab) k r := by
    unfold hy6
    exact hc (kBytesB (bs := ([] : LB)) .nil (denX rfl)) <|
     hc (kRn (denX rfl)) <|
     hc (lnV rfl rfl (by omega)) <|
     hc (gtcF rfl (by omega)) <|
     hc (gtcT rfl (by omega)) <|
     hc (ixC rfl rfl (by omega)) <|
     hc (necF rfl (by omega)) <|
     hc (kCat (isSx (l := ([] : LB)) 0 0 rfl) (isX rfl) (denX rfl) (by first | rfl | (simp; done)) (by omega)) <|
     hc (kByt (i := 0) (isX rfl) (isZ (m := 0) rfl) (denX rfl) rfl (by first | omega | (simp <;> omega)) rfl) <|
     hc (kFit (isX rfl) (by first | omega | (simp <;> omega))) <|
     hc (lnV rfl rfl (by omega)) <|
     hc (ltcF rfl (by omega)) <|
     hc (gecF rfl (by omega)) <|
     hc (kNeS (isX rfl) (isSx (l := ([] : LB)) 0 0 rfl) (bnT (nilF (by omega)))) <|
     hc (ixC rfl rfl (by omega)) <|
     hc (necF rfl (by omega)) <|
     hc (ltcT rfl (by omega)) <|
     hc (hokNds (isX rfl) (denX rfl) (by omega)) <|
     hc (eqXT rfl rfl (by omega)) <|
     hc (lnV rfl rfl (by omega)) <|
     hc (eqXT rfl rfl (by omega)) <|
     hnil
  exact runPR (tb := tab6) (AllOk.lp1 ((tabkOk (nuX (nu6 ad_z cp_z mo blk_at_ base_at_ es_at_ at_) (rX (ro6 ad_z cp_z mo blk_at_ base_at_ es_at_ at_) (fun _ => .bool true))) (nuX_one (on6 ad_z cp_z mo blk_at_ base_at_ es_at_ at_))).hyps ho) (by omega) fi4_at fi4_body (lfCons (lpKnown rfl ⟨1, keyFd1, lfOkFd1_1 (l := lf34) (h := lh34) mo at_ (by omega) (by omega) (0, mo, [], (0 : Int), (0 : Int)) (mkIFd1 mo at_ 0 mo [] (0 : Int) (0 : Int) ⟨rfl, hSl, hX4, by omega, by simp, (by rw [cU_nil]; exact nd_nil (by omega)), fun _ => rfl, fun h => by omega, fun h => absurd rfl h, fun h => by omega, by assumption, by omega, by omega, by omega⟩) rfl (by kernel_rfl) (th0 := [(0, .x 4), (1, .i .i64 (.ofNat 0)), (2000000, .x 2000000)]) (sg0 := [(302, 4)]) (fun X => thXv (v := St' mo) rfl rfl (thCons (show Is _ (.i .i64 (.ofNat 0)) (.int .i64 ((0 : Int))) from isTo (v := .int .i64 0) (isI _ _) (by first | rfl | (congr 1; omega))) (thXv (v := rwI .u8 at_) rfl rfl (thNil)))) (by kernel_rfl) (thx := [(9, .x 0), (2000002, .x 2000000)]) (thXv (v := St' ((cU mo).2.1)) rfl rfl (thXv (v := rwI .u8 at_) rfl rfl (thNil))) (by kernel_rfl)⟩) lfNil)) rfl (get_lps (by omega)) fiB4 [.r 2000000 5 1 true, .r 2000000 5 1 true] [⟨blk_at_, base_at_, at_.length, es_at_⟩, ⟨blk_at_, base_at_, at_.length, es_at_⟩] (fun e => run6 e ) (args := [.slice ad_z 0 cp_z, St' mo, .slice (some ⟨blk_at_, base_at_, none⟩) at_.length es_at_]) ⟨_, _, rfl, ⟨_, _, rfl⟩, ⟨_, _, rfl, rfl, ⟨_, _, rfl, relSrN (by decide) rfl w_at_.room, rfl⟩⟩⟩ w hl rfl (by decide) (fun e => (argsCons (w_at_.arg (g_at_ e ) rfl) (argsCons (w_at_.arg (g_at_ e ) rfl) argsNil))) rfl
def hy7 : LK := [(.bytes [], .x 1),
  (.rn, .x 2000001),
  (.len (.x 0), .x 2),
  (.bin .gtr (.x 2) (.i .i64 (.ofNat 7)), .b false),
  (.bin .gtr (.x 2) (.i .i64 (.ofNat 0)), .b true),
  (.idx (.x 0) (.i .i64 (.ofNat 0)), .x 3),
  (.bin .neq (.x 3) (.i .u8 (.ofNat 1)), .b false),
  (.bin .add (.s 0 0) (.x 0), .x 4),
  (.byt (.x 4) (.i .i64 (.ofNat 0)), .x 5),
  (.fit (.x 4), .b true),
  (.len (.x 4), .x 6),
  (.bin .lss (.x 6) (.i .i64 (.ofNat 0)), .b false),
  (.bin .geq (.x 6) (.i .i64 (.ofNat 6)), .b true),
  (.idx (.x 4) (.i .i64 (.ofNat 0)), .x 7),
  (.bin .eql (.x 7) (.i .u8 (.ofNat 1)), .b true),
  (.idx (.x 4) (.i .i64 (.ofNat 4)), .x 8),
  (.conv 3 (.x 8), .x 9),
  (.bin .shl (.x 9) (.i .u64 (.ofNat 8)), .x 10),
  (.idx (.x 4) (.i .i64 (.ofNat 5)), .x 11),
  (.conv 3 (.x 11), .x 12),
  (.bin .add (.x 10) (.x 12), .x 13),
  (.bin .gtr (.x 13) (.i .i64 (.ofNat 65535)), .b false),
  (.bin .neq (.x 4) (.s 0 0), .b true),
  (.bin .neq (.x 7) (.i .u8 (.ofNat 1)), .b false),
  (.bin .lss (.x 6) (.i .i64 (.ofNat 8)), .b true),
  (.call 20 [.x 4], .x 14),
  (.bin .eql (.x 6) (.x 2), .b true),
  (.len (.x 15), .x 16),
  (.bin .eql (.x 16) (.x 2), .b true)]
def lh35 : LH := ⟨1, 300, 420, [(2, .r 2000000 5 1 true), (4, .b ⟨53, .l [.i .i64 (.ofNat 65535), .nils, .i .i64 (.ofNat 0), .b false], 0, 0, 0, false, false⟩)], [(2, .r 2000002 5 1 true), (302, .b ⟨53, .l [.i .i64 (.ofNat 65535), .sy 300, .und, .b false], 0, 0, 0, false, false⟩), (300, .t 15 5)]⟩
def lf35 : LF := ⟨19, 137, [(2, .sr 2), (7, .x 4), (10, .p 4 0), (13, .nils), (14, .i .i64 (.ofNat 0))], [0, 1, 9, 11, 12], (.exit 2), [(10, .p 302 0), (13, .nils)], some lh35⟩
noncomputable def tab7 : Tab := addLps ({ tabk with hyp := hy7 }) 4 fi4 [lf35]
theorem run7 (e : Nat) : Go.AX.okB (call tab7 9000 4 [.es, .x 0, .sr 2] ⟨addR 1 [.r 2000000 5 1 true, .r 2000000 5 1 true] (H0 e ), 1 + List.length (α := Ent) [.r 2000000 5 1 true, .r 2000000 5 1 true], 0, 0⟩) = true := by kernel_rfl
def nu7 (ad_z : Option Addr) (cp_z : Nat) (mo : LB) (blk_at_ : Nat) (base_at_ : Nat) (es_at_ : Nat) (at_ : List Int) : List Value := [St' mo,
  St' ([] : LB),
  .int .i64 ((mo.length : Int)),
  .int .u8 (bt mo 0),
  St' mo,
  .int .u8 (bt mo 0),
  .int .i64 ((mo.length : Int)),
  .int .u8 (bt mo 0),
  .int .u8 (bt mo 4),
  .int .i64 ((bt mo 4)),
  .int .i64 ((bt mo 4) * 256),
  .int .u8 (bt mo 5),
  .int .i64 ((bt mo 5)),
  .int .i64 ((bt mo 4) * 256 + (bt mo 5)),
  .int .i64 ((ndS mo)),
  St' ((cU mo).2.1),
  .int .i64 (((cU mo).2.1.length : Int))]
def ro7 (ad_z : Option Addr) (cp_z : Nat) (mo : LB) (blk_at_ : Nat) (base_at_ : Nat) (es_at_ : Nat) (at_ : List Int) : List Value := [rwI .u8 at_,
  rwS ([] : List LB),
  rwI .u8 at_]
theorem on7 (ad_z : Option Addr) (cp_z : Nat) (mo : LB) (blk_at_ : Nat) (base_at_ : Nat) (es_at_ : Nat) (at_ : List Int) : ∀ j, (nuL (nu7 ad_z cp_z mo blk_at_ base_at_ es_at_ at_) j).oneCell' = true := nuL_one (l := nu7 ad_z cp_z mo blk_at_ base_at_ es_at_ at_) rfl
theorem path7 (ad_z : Option Addr) (cp_z : Nat) (mo : LB) (blk_at_ : Nat) (base_at_ : Nat) (es_at_ : Nat) (at_ : List Int) (b0 : mo.length ≤ 9223372036854775807) (b1 : 1 ≤ at_.length) (b2 : ∀ n, n ∈ at_ → 0 ≤ n ∧ n ≤ 255) (b3 : at_.length ≤ 9223372036854775807) (h0 : ¬ (7 < (mo.length : Int))) (h1 : 0 < (mo.length : Int)) (h2 : bt mo 0 = 1) (h5 : 6 ≤ (mo.length : Int)) (w : World) (hl : laidE w) (w_at_ : InRow w 1 (at_.map (Value.int .u8)) blk_at_ base_at_ at_.length es_at_) (g_at_ : ∀ e, (H0 e ).get blk_at_ = none) : CwR 4 #[.slice ad_z 0 cp_z, St' mo, .slice (some ⟨blk_at_, base_at_, none⟩) at_.length es_at_] w (.bool true) := by
  have hn0 : ([] : LB).length = 0 := rfl
  have := bt_lo mo 0; have := bt_hi mo 0
  have := bt_lo mo 4; have := bt_hi mo 4
  have := bt_lo mo 5; have := bt_hi mo 5
  obtain ⟨hX1, hX2, hX3, hX4⟩ := fX1 (m := mo) (by omega) (by omega)
  have hX5 := congrArg List.length hX1; have hX6 := congrArg List.length hX2
  have hSl : (mo).length ≤ 10000 := by first | omega | (simp only [List.length_append]; omega)
  have ho : ∀ k r, (k, r) ∈ hy7 → HOk (cx (nuX (nu7 ad_z cp_z mo blk_at_ base_at_ es_at_ at_) (rX (ro7 ad_z cp_z mo blk_at_ base_at_ es_at_ at_) (fun _ => .bool true))) (nuX_one (on7 ad_z cp_z mo blk_at_ base_at_ es_at_ at_)) 1 laidE laidE_stab) k r := by
    unfold hy7
    exact hc (kBytesB (bs := ([] : LB)) .nil (denX rfl)) <|
     hc (kRn (denX rfl)) <|
     hc (lnV rfl rfl (by omega)) <|
     hc (gtcF rfl (by omega)) <|
     hc (gtcT rfl (by omega)) <|
     hc (ixC rfl rfl (by omega)) <|
     hc (necF rfl (by omega)) <|
     hc (kCat (isSx (l := ([] : LB)) 0 0 rfl) (isX rfl) (denX rfl) (by first | rfl | (simp; done)) (by omega)) <|
     hc (kByt (i := 0) (isX rfl) (isZ (m := 0) rfl) (denX rfl) rfl (by first | omega | (simp <;> omega)) rfl) <|
     hc (kFit (isX rfl) (by first | omega | (simp <;> omega))) <|
     hc (lnV rfl rfl (by omega)) <|
     hc (ltcF rfl (by omega)) <|
     hc (gecT rfl (by omega)) <|
     hc (ixC rfl rfl (by omega)) <|
     hc (eqcT rfl (by omega)) <|
     hc (ixC rfl rfl (by omega)) <|
     hc (kConvF (isX rfl) tu3 (denX rfl) (fI64 (by omega) (by omega))) <|
     hc (kShlM 8 256 rfl (isX rfl) (isZ (m := 8) rfl) (denX rfl) rfl (by decide) (by omega) (fI64 (by omega) (by omega))) <|
     hc (ixC rfl rfl (by omega)) <|
     hc (kConvF (isX rfl) tu3 (denX rfl) (fI64 (by omega) (by omega))) <|
     hc (adX rfl rfl rfl (by omega)) <|
     hc (gtcF rfl (by omega)) <|
     hc (kNeS (isX rfl) (isSx (l := ([] : LB)) 0 0 rfl) (bnT (nilF (by omega)))) <|
     hc (necF rfl (by omega)) <|
     hc (ltcT rfl (by omega)) <|
     hc (hokNds (isX rfl) (denX rfl) (by omega)) <|
     hc (eqXT rfl rfl (by omega)) <|
     hc (lnV rfl rfl (by omega)) <|
     hc (eqXT rfl rfl (by omega)) <|
     hnil
  exact runPR (tb := tab7) (AllOk.lp1 ((tabkOk (nuX (nu7 ad_z cp_z mo blk_at_ base_at_ es_at_ at_) (rX (ro7 ad_z cp_z mo blk_at_ base_at_ es_at_ at_) (fun _ => .bool true))) (nuX_one (on7 ad_z cp_z mo blk_at_ base_at_ es_at_ at_))).hyps ho) (by omega) fi4_at fi4_body (lfCons (lpKnown rfl ⟨1, keyFd1, lfOkFd1_1 (l := lf35) (h := lh35) mo at_ (by omega) (by omega) (0, mo, [], (0 : Int), (0 : Int)) (mkIFd1 mo at_ 0 mo [] (0 : Int) (0 : Int) ⟨rfl, hSl, hX4, by omega, by simp, (by rw [cU_nil]; exact nd_nil (by omega)), fun _ => rfl, fun h => by omega, fun h => absurd rfl h, fun h => by omega, by assumption, by omega, by omega, by omega⟩) rfl (by kernel_rfl) (th0 := [(0, .x 4), (1, .i .i64 (.ofNat 0)), (2000000, .x 2000000)]) (sg0 := [(302, 4)]) (fun X => thXv (v := St' mo) rfl rfl (thCons (show Is _ (.i .i64 (.ofNat 0)) (.int .i64 ((0 : Int))) from isTo (v := .int .i64 0) (isI _ _) (by first | rfl | (congr 1; omega))) (thXv (v := rwI .u8 at_) rfl rfl (thNil)))) (by kernel_rfl) (thx := [(15, .x 0), (2000002, .x 2000000)]) (thXv (v := St' ((cU mo).2.1)) rfl rfl (thXv (v := rwI .u8 at_) rfl rfl (thNil))) (by kernel_rfl)⟩) lfNil)) rfl (get_lps (by omega)) fiB4 [.r 2000000 5 1 true, .r 2000000 5 1 true] [⟨blk_at_, base_at_, at_.length, es_at_⟩, ⟨blk_at_, base_at_, at_.length, es_at_⟩] (fun e => run7 e ) (args := [.slice ad_z 0 cp_z, St' mo, .slice (some ⟨blk_at_, base_at_, none⟩) at_.length es_at_]) ⟨_, _, rfl, ⟨_, _, rfl⟩, ⟨_, _, rfl, rfl, ⟨_, _, rfl, relSrN (by decide) rfl w_at_.room, rfl⟩⟩⟩ w hl rfl (by decide) (fun e => (argsCons (w_at_.arg (g_at_ e ) rfl) (argsCons (w_at_.arg (g_at_ e ) rfl) argsNil))) rfl
def hy8 : LK := [(.bytes [], .x 1),
  (.rn, .x 2000001),
  (.rl (.x 2000000) 4, .x 2),
  (.bin .gtr (.x 2) (.i .i64 (.ofNat 10)), .b false),
  (.len (.x 0), .x 3),
  (.bin .gtr (.x 3) (.i .i64 (.ofNat 7)), .b false),
  (.bin .gtr (.x 3) (.i .i64 (.ofNat 0)), .b false),
  (.bin .add (.x 4) (.x 0), .x 5),
  (.byt (.x 5) (.i .i64 (.ofNat 0)), .x 6),
  (.fit (.x 5), .b true),
  (.len (.x 5), .x 7),
  (.bin .lss (.x 7) (.i .i64 (.ofNat 0)), .b false),
  (.fit (.x 8), .b true),
  (.call 20 [.x 8], .x 10),
  (.rl (.x 2000003) 4, .x 12),
  (.rl (.x 2000002) 4, .x 13),
  (.bin .neq (.x 12) (.x 13), .b false),
  (.rl (.x 2000004) 4, .x 14),
  (.rl (.x 2000006) 4, .x 15),
  (.bin .neq (.x 14) (.x 15), .b false),
  (.len (.x 8), .x 16),
  (.bin .eql (.x 16) (.x 3), .b true),
  (.len (.x 11), .x 17),
  (.bin .eql (.x 17) (.x 3), .b true)]
def lh36 : LH := ⟨1, 20, 20, [(1, .r 2000000 26 4 true)], [(1, .r 2000002 26 4 true)]⟩
def lf36 : LF := ⟨7, 137, [(0, .sr 1), (7, .s 0 0), (8, .i .i64 (.ofNat 0))], [1, 2], (.exit 0), [(0, .sr 1), (7, .x 4)], some lh36⟩
def lh45 : LH := ⟨1, 120, 180, [(20, .b ⟨53, .l [.i .i64 (.ofNat 65535), .sy 22, .i .i64 (.ofNat 0), .b false], 0, 0, 0, false, false⟩), (22, .t 5 5)], [(20, .b ⟨53, .l [.i .i64 (.ofNat 65535), .sy 121, .x 9, .b false], 0, 0, 0, false, false⟩), (120, .r 2000003 26 4 false)]⟩
def lf45 : LF := ⟨2, 38, [(0, .p 20 0), (1, .x 5), (7, .nils)], [], .ret, [(4, .sr 120), (5, .x 8), (6, .ni)], some lh45⟩
def lh46 : LH := ⟨1, 300, 420, [(21, .b ⟨53, .l [.i .i64 (.ofNat 65535), .nils, .i .i64 (.ofNat 0), .b false], 0, 0, 0, false, false⟩)], [(302, .b ⟨53, .l [.i .i64 (.ofNat 65535), .sy 300, .und, .b false], 0, 0, 0, false, false⟩), (300, .t 11 5), (301, .r 2000004 26 4 false)]⟩
def lf46 : LF := ⟨19, 137, [(2, .es), (7, .x 5), (10, .p 21 0), (13, .nils), (14, .i .i64 (.ofNat 0))], [0, 1, 9, 11, 12], (.exit 2), [(10, .p 302 0), (13, .sr 301)], some lh46⟩
def lh47 : LH := ⟨1, 420, 420, [(120, .r 2000003 26 4 false), (1, .r 2000002 26 4 true)], [(120, .r 2000005 26 4 false), (1, .r 2000006 26 4 true)]⟩
def lf47 : LF := ⟨4, 26, [(0, .sr 120), (1, .sr 1), (5, .i .i64 (.ofNat 0))], [], (.exit 0), [], some lh47⟩
def lh48 : LH := ⟨1, 420, 420, [(301, .r 2000004 26 4 false), (1, .r 2000006 26 4 true)], [(301, .r 2000007 26 4 false), (1, .r 2000008 26 4 true)]⟩
def lf48 : LF := ⟨4, 26, [(0, .sr 301), (1, .sr 1), (5, .i .i64 (.ofNat 0))], [], (.exit 0), [], some lh48⟩
noncomputable def tab8 : Tab := addLps (addLps (addLps ({ tabk with hyp := hy8 }) 4 fi4 [lf36, lf46]) 19 fi19 [lf45]) 13 fi13 [lf47, lf48]
theorem run8 (e : Nat) : Go.AX.okB (call tab8 9000 4 [.sr 1, .x 0, .es] ⟨addR 1 [.r 2000000 26 4 true] (H0 e ), 1 + List.length (α := Ent) [.r 2000000 26 4 true], 0, 0⟩) = true := by kernel_rfl
def nu8 (blk_z : Nat) (base_z : Nat) (es_z : Nat) (z : List (Int × Int × LB × Int)) (mo : LB) (ad_at_ : Option Addr) (cp_at_ : Nat) : List Value := [St' mo,
  St' ([] : LB),
  .int .i64 ((z.length : Int)),
  .int .i64 ((mo.length : Int)),
  St' (rbS z),
  St' ((rbS z) ++ mo),
  .int .u8 (bt ((rbS z) ++ mo) 0),
  .int .i64 (((rbS z).length : Int) + (mo.length : Int)),
  St' ((cU ((rbS z) ++ mo)).2.1),
  .int .i64 (0),
  .int .i64 ((ndS ((cU ((rbS z) ++ mo)).2.1))),
  St' ((cU ((rbS z) ++ mo)).2.1),
  .int .i64 (((cU ((rbS z) ++ mo)).1.length : Int)),
  .int .i64 ((z.length : Int)),
  .int .i64 (((cU ((rbS z) ++ mo)).1.length : Int)),
  .int .i64 ((z.length : Int)),
  .int .i64 (((cU ((rbS z) ++ mo)).2.1.length : Int)),
  .int .i64 (((cU ((rbS z) ++ mo)).2.1.length : Int))]
def ro8 (blk_z : Nat) (base_z : Nat) (es_z : Nat) (z : List (Int × Int × LB × Int)) (mo : LB) (ad_at_ : Option Addr) (cp_at_ : Nat) : List Value := [rwG reC z,
  rwS ([] : List LB),
  rwG reC z,
  rwG reC ((cU ((rbS z) ++ mo)).1),
  rwG reC ((cU ((rbS z) ++ mo)).1),
  rwG reC ((cU ((rbS z) ++ mo)).1),
  rwG reC z,
  rwG reC ((cU ((rbS z) ++ mo)).1),
  rwG reC z]
theorem on8 (blk_z : Nat) (base_z : Nat) (es_z : Nat) (z : List (Int × Int × LB × Int)) (mo : LB) (ad_at_ : Option Addr) (cp_at_ : Nat) : ∀ j, (nuL (nu8 blk_z base_z es_z z mo ad_at_ cp_at_) j).oneCell' = true := nuL_one (l := nu8 blk_z base_z es_z z mo ad_at_ cp_at_) rfl
theorem path8 (blk_z : Nat) (base_z : Nat) (es_z : Nat) (z : List (Int × Int × LB × Int)) (mo : LB) (ad_at_ : Option Addr) (cp_at_ : Nat) (b0 : 1 ≤ z.length) (b1 : ∀ n, n ∈ z → reB n) (b2 : z.length ≤ 9223372036854775807) (b3 : mo.length ≤ 9223372036854775807) (h0 : ¬ (10 < (z.length : Int))) (h1 : ¬ (7 < (mo.length : Int))) (h2 : okR 300 z) (h3 : ¬ (0 < (mo.length : Int))) (w : World) (hl : laidE w) (w_z : InRow w 4 (z.flatMap reC) blk_z base_z z.length es_z) (g_z : ∀ e, (H0 e ).get blk_z = none) : CwR 4 #[.slice (some ⟨blk_z, base_z, none⟩) z.length es_z, St' mo, .slice ad_at_ 0 cp_at_] w (.bool true) := by
  have hn0 : ([] : LB).length = 0 := rfl
  have hrl := rbS_len (b := 300) (by omega) z (by assumption)
  have := bt_lo ((rbS z) ++ mo) 0; have := bt_hi ((rbS z) ++ mo) 0
  obtain ⟨hX1, hX2, hX3, hX4⟩ := fX (z := z) (m := mo) (by assumption) (by omega) (by omega)
  have hX5 := congrArg List.length hX1; have hX6 := congrArg List.length hX2; have hrp := rbS_pos z (by assumption); have hXl : (rbS z ++ mo).length = (rbS z).length + mo.length := List.length_append
  have hSl : (((rbS z) ++ mo)).length ≤ 10000 := by first | omega | (simp only [List.length_append]; omega)
  have ho : ∀ k r, (k, r) ∈ hy8 → HOk (cx (nuX (nu8 blk_z base_z es_z z mo ad_at_ cp_at_) (rX (ro8 blk_z base_z es_z z mo ad_at_ cp_at_) (fun _ => .bool true))) (nuX_one (on8 blk_z base_z es_z z mo ad_at_ cp_at_)) 1 laidE laidE_stab) k r := by
    unfold hy8
    exact hc (kBytesB (bs := ([] : LB)) .nil (denX rfl)) <|
     hc (kRn (denX rfl)) <|
     hc (kRlG reC_len (isX rfl) (denX rfl) (by first | omega | (simp <;> omega))) <|
     hc (gtcF rfl (by omega)) <|
     hc (lnV rfl rfl (by omega)) <|
     hc (gtcF rfl (by omega)) <|
     hc (gtcF rfl (by omega)) <|
     hc (kCat (isX rfl) (isX rfl) (denX rfl) (by first | rfl | (simp; done)) (by omega)) <|
     hc (kByt (i := 0) (isX rfl) (isZ (m := 0) rfl) (denX rfl) rfl (by first | omega | (simp <;> omega)) rfl) <|
     hc (kFit (isX rfl) (by first | omega | (simp <;> omega))) <|
     hc (lnV rfl rfl (by first | omega | (simp <;> omega))) <|
     hc (ltcF rfl (by omega)) <|
     hc (kFit (isX rfl) (by first | omega | (simp <;> omega))) <|
     hc (hokNds (isX rfl) (denX rfl) (by omega)) <|
     hc (kRlG reC_len (isX rfl) (denX rfl) (by first | omega | (simp <;> omega))) <|
     hc (kRlG reC_len (isX rfl) (denX rfl) (by first | omega | (simp <;> omega))) <|
     hc (kNeI (isX rfl) (isX rfl) (neF (by omega))) <|
     hc (kRlG reC_len (isX rfl) (denX rfl) (by first | omega | (simp <;> omega))) <|
     hc (kRlG reC_len (isX rfl) (denX rfl) (by first | omega | (simp <;> omega))) <|
     hc (kNeI (isX rfl) (isX rfl) (neF (by omega))) <|
     hc (lnV rfl rfl (by omega)) <|
     hc (eqXT rfl rfl (by omega)) <|
     hc (lnV rfl rfl (by omega)) <|
     hc (eqXT rfl rfl (by omega)) <|
     hnil
  exact runPR (tb := tab8) (AllOk.lp1 (AllOk.lp1 (AllOk.lp1 ((tabkOk (nuX (nu8 blk_z base_z es_z z mo ad_at_ cp_at_) (rX (ro8 blk_z base_z es_z z mo ad_at_ cp_at_) (fun _ => .bool true))) (nuX_one (on8 blk_z base_z es_z z mo ad_at_ cp_at_))).hyps ho) (by omega) fi4_at fi4_body (lfCons (lpKnown rfl ⟨0, keyLa, lfOkLa_0 (l := lf36) (h := lh36) z (by assumption) (0, (0 : Int), ([] : LB)) (mkILa z 0 (0 : Int) ([] : LB) ⟨by omega, by omega, by omega, by assumption, by simp, rfl, (fun r hr => nomatch hr), by omega⟩) rfl (by kernel_rfl) (th0 := [(0, .i .i64 (.ofNat 0)), (1, .s 0 0), (2000000, .x 2000000)]) (sg0 := []) (fun X => thCons (show Is _ (.i .i64 (.ofNat 0)) (.int .i64 ((0 : Int))) from isTo (v := .int .i64 0) (isI _ _) (by first | rfl | (congr 1; omega))) (thCons (show Is _ (.s 0 0) (St' ([] : LB)) from isTo (v := St' ([] : LB)) (isSx (l := ([] : LB)) 0 0 rfl) (by first | rfl | (simp; done))) (thXv (v := rwG reC z) rfl rfl (thNil)))) (by kernel_rfl) (thx := [(4, .x 0), (2000002, .x 2000000)]) (thXv (v := St' (rbS z)) rfl rfl (thXv (v := rwG reC z) rfl rfl (thNil))) (by kernel_rfl)⟩) (lfCons (lpKnown rfl ⟨1, keyFd0, lfOkFd0_2 (l := lf46) (h := lh46) ((rbS z) ++ mo) (by omega) (0, ((rbS z) ++ mo), [], (0 : Int), (0 : Int)) (mkIFd0 ((rbS z) ++ mo) 0 ((rbS z) ++ mo) [] (0 : Int) (0 : Int) ⟨rfl, hSl, hX4, by omega, by simp, (by rw [cU_nil]; exact nd_nil (by omega)), fun _ => rfl, fun h => by omega, fun h => absurd rfl h, fun h => by omega, by omega⟩) rfl (by kernel_rfl) (th0 := [(0, .x 5), (1, .i .i64 (.ofNat 0))]) (sg0 := [(302, 21)]) (fun X => thXv (v := St' ((rbS z) ++ mo)) rfl rfl (thCons (show Is _ (.i .i64 (.ofNat 0)) (.int .i64 ((0 : Int))) from isTo (v := .int .i64 0) (isI _ _) (by first | rfl | (congr 1; omega))) (thNil))) (by kernel_rfl) (thx := [(11, .x 0), (2000004, .x 2000000)]) (thXv (v := St' ((cU ((rbS z) ++ mo)).2.1)) rfl rfl (thXv (v := rwG reC ((cU ((rbS z) ++ mo)).1)) rfl rfl (thNil))) (by kernel_rfl)⟩) lfNil))) (by omega) (get_lps2 (by omega) (by omega) fi19_at) fi19_body (lfCons (lpKnown rfl ⟨0, keyCu0, lfOkCu0_1 (l := lf45) (h := lh45) ((cU ((rbS z) ++ mo)).1) ((cU ((rbS z) ++ mo)).2.1) ((cU ((rbS z) ++ mo)).2.2) 0 hX3 (by omega) (0, ((rbS z) ++ mo), []) (mkICu0 ((cU ((rbS z) ++ mo)).1) ((cU ((rbS z) ++ mo)).2.1) ((cU ((rbS z) ++ mo)).2.2) 0 0 ((rbS z) ++ mo) [] ⟨by omega, rfl, rfl, rfl, by simp only [List.length_nil]; omega, fun _ => rfl, fun h => by omega, by omega⟩) rfl (by kernel_rfl) (th0 := [(0, .x 5), (1, .i .i64 (.ofNat 0))]) (sg0 := [(121, 22)]) (fun X => thXv (v := St' ((rbS z) ++ mo)) rfl rfl (thCons (show Is _ (.i .i64 (.ofNat 0)) (.int .i64 (0)) from isTo (v := .int .i64 0) (isI _ _) (by first | rfl | (congr 1; omega))) (thNil))) (by kernel_rfl) (thx := [(8, .x 0), (9, .x 1), (2000003, .x 2000000)]) (thXv (v := St' ((cU ((rbS z) ++ mo)).2.1)) rfl rfl (thXv (v := .int .i64 (0)) rfl rfl (thXv (v := rwG reC ((cU ((rbS z) ++ mo)).1)) rfl rfl (thNil)))) (by kernel_rfl)⟩) lfNil)) (by omega) (get_lps2 (by omega) (by omega) (get_lps2 (by omega) (by omega) fi13_at)) fi13_body (lfCons (lpKnown rfl ⟨0, keySa0, lfOkSa0_0 (l := lf47) (h := lh47) z (0, (0 : Int)) (mkISa0 z 0 (0 : Int) ⟨by omega, by omega, by omega, by assumption, by omega⟩) rfl (by kernel_rfl) (th0 := [(0, .i .i64 (.ofNat 0)), (2000000, .x 2000003), (2000001, .x 2000002)]) (sg0 := []) (fun X => thCons (show Is _ (.i .i64 (.ofNat 0)) (.int .i64 ((0 : Int))) from isTo (v := .int .i64 0) (isI _ _) (by first | rfl | (congr 1; omega))) (thXe (v := rwG reC ((cU ((rbS z) ++ mo)).1)) (u := rwG reC z) rfl rfl (congrArg (rwG reC) hX1) (thXv (v := rwG reC z) rfl rfl (thNil)))) (by kernel_rfl) (thx := [(2000005, .x 2000000), (2000006, .x 2000001)]) (thXe (v := rwG reC z) (u := rwG reC ((cU ((rbS z) ++ mo)).1)) rfl rfl ((congrArg (rwG reC) hX1).symm) (thXv (v := rwG reC z) rfl rfl (thNil))) (by kernel_rfl)⟩) (lfCons (lpKnown rfl ⟨0, keySa1, lfOkSa1_0 (l := lf48) (h := lh48) z (0, (0 : Int)) (mkISa1 z 0 (0 : Int) ⟨by omega, by omega, by omega, by assumption, by omega⟩) rfl (by kernel_rfl) (th0 := [(0, .i .i64 (.ofNat 0)), (2000000, .x 2000004), (2000001, .x 2000006)]) (sg0 := []) (fun X => thCons (show Is _ (.i .i64 (.ofNat 0)) (.int .i64 ((0 : Int))) from isTo (v := .int .i64 0) (isI _ _) (by first | rfl | (congr 1; omega))) (thXe (v := rwG reC ((cU ((rbS z) ++ mo)).1)) (u := rwG reC z) rfl rfl (congrArg (rwG reC) hX1) (thXv (v := rwG reC z) rfl rfl (thNil)))) (by kernel_rfl) (thx := [(2000007, .x 2000000), (2000008, .x 2000001)]) (thXe (v := rwG reC z) (u := rwG reC ((cU ((rbS z) ++ mo)).1)) rfl rfl ((congrArg (rwG reC) hX1).symm) (thXv (v := rwG reC z) rfl rfl (thNil))) (by kernel_rfl)⟩) lfNil))) rfl (get_lps2 (by omega) (by omega) (get_lps2 (by omega) (by omega) (get_lps (by omega)))) fiB4 [.r 2000000 26 4 true] [⟨blk_z, base_z, z.length, es_z⟩] (fun e => run8 e ) (args := [.slice (some ⟨blk_z, base_z, none⟩) z.length es_z, St' mo, .slice ad_at_ 0 cp_at_]) ⟨_, _, rfl, relSrN (by decide) rfl w_z.room, ⟨_, _, rfl, rfl, ⟨_, _, rfl, ⟨_, _, rfl⟩, rfl⟩⟩⟩ w hl rfl (by decide) (fun e => (argsCons (w_z.arg (g_z e ) rfl) argsNil)) rfl
end Go.Proofs.YtlfmfmegnenohaaDoor.cutterCuts
