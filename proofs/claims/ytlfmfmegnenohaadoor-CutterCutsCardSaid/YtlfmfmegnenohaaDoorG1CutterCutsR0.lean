/- A part of the proof: an interpreter of the model's own code on partly known states, and that what it answers is what the program answers. No condition of its own. -/
import Derived.Test.YtlfmfmegnenohaaDoorG1CutterCutsO8
set_option maxRecDepth 100000
set_option linter.unusedVariables false
set_option linter.unusedSimpArgs false
set_option maxHeartbeats 4000000
namespace Go.Proofs.YtlfmfmegnenohaaDoor.cutterCuts
open Go Go.AX Go.Proofs Go.Proofs.YtlfmfmegnenohaaDoor
def hy0 : LK := [(.bytes [], .x 1),
  (.rn, .x 2000000),
  (.len (.x 0), .x 2),
  (.bin .gtr (.x 2) (.i .i64 (.ofNat 7)), .b false),
  (.bin .gtr (.x 2) (.i .i64 (.ofNat 0)), .b false),
  (.bin .add (.s 0 0) (.x 0), .s 0 0),
  (.len (.x 1), .i .i64 (.ofNat 0)),
  (.bin .neq (.x 1) (.s 0 0), .b false),
  (.fit (.x 1), .b true),
  (.call 20 [.x 1], .i .i64 (.ofNat 1)),
  (.bin .eql (.i .i64 (.ofNat 0)) (.x 2), .b true)]
theorem run0 (e : Nat) : Go.AX.okB (call (tbl hy0) 9000 4 [.es, .x 0, .es] ⟨H0 e , 1, 0, 0⟩) = true := by kernel_rfl
def nu0 (ad_z : Option Addr) (cp_z : Nat) (mo : LB) (ad_at_ : Option Addr) (cp_at_ : Nat) : List Value := [St' mo,
  St' ([] : LB),
  .int .i64 ((mo.length : Int))]
def ro0 (ad_z : Option Addr) (cp_z : Nat) (mo : LB) (ad_at_ : Option Addr) (cp_at_ : Nat) : List Value := [rwS ([] : List LB)]
theorem on0 (ad_z : Option Addr) (cp_z : Nat) (mo : LB) (ad_at_ : Option Addr) (cp_at_ : Nat) : ∀ j, (nuL (nu0 ad_z cp_z mo ad_at_ cp_at_) j).oneCell' = true := nuL_one (l := nu0 ad_z cp_z mo ad_at_ cp_at_) rfl
theorem path0 (ad_z : Option Addr) (cp_z : Nat) (mo : LB) (ad_at_ : Option Addr) (cp_at_ : Nat) (b0 : mo.length ≤ 9223372036854775807) (h0 : ¬ (7 < (mo.length : Int))) (h1 : ¬ (0 < (mo.length : Int))) (w : World) (hl : laidE w) : CwR 4 #[.slice ad_z 0 cp_z, St' mo, .slice ad_at_ 0 cp_at_] w (.bool true) := by
  have hn0 : ([] : LB).length = 0 := rfl
  have ho : ∀ k r, (k, r) ∈ hy0 → HOk (cx (nuX (nu0 ad_z cp_z mo ad_at_ cp_at_) (rX (ro0 ad_z cp_z mo ad_at_ cp_at_) (fun _ => .bool true))) (nuX_one (on0 ad_z cp_z mo ad_at_ cp_at_)) 1 laidE laidE_stab) k r := by
    unfold hy0
    exact hc (kBytesB (bs := ([] : LB)) .nil (denX rfl)) <|
     hc (kRn (denX rfl)) <|
     hc (lnV rfl rfl (by omega)) <|
     hc (gtcF rfl (by omega)) <|
     hc (gtcF rfl (by omega)) <|
     hc (kCat (isSx (l := ([] : LB)) 0 0 rfl) (isX rfl) (denE0 (l := [] ++ mo) (by simp only [List.nil_append]; omega)) rfl (by omega)) <|
     hc (kLenE (isX rfl) (denZ (m := 0) rfl) rfl) <|
     hc (kNeS (isX rfl) (isSx (l := ([] : LB)) 0 0 rfl) (bnF (decide_eq_true rfl))) <|
     hc (kFit (isX rfl) (by first | omega | (simp <;> omega))) <|
     hc (hokNds (isX rfl) (denZ (m := ndS []) rfl) (by simp)) <|
     hc (kEqI (isZ (m := 0) rfl) (isX rfl) (decide_eq_true (by omega))) <|
     hnil
  obtain ⟨fi, hfi, hb⟩ := fiE
  exact runP (tb := (tbl hy0)) ((tabkOk (nuX (nu0 ad_z cp_z mo ad_at_ cp_at_) (rX (ro0 ad_z cp_z mo ad_at_ cp_at_) (fun _ => .bool true))) (nuX_one (on0 ad_z cp_z mo ad_at_ cp_at_))).hyps ho) rfl hfi hb (fun e => run0 e ) (args := [.slice ad_z 0 cp_z, St' mo, .slice ad_at_ 0 cp_at_]) (by simp only [RelL, Rel]; exact ⟨_, _, rfl, ⟨_, _, rfl⟩, ⟨_, _, rfl, rfl, ⟨_, _, rfl, ⟨_, _, rfl⟩, rfl⟩⟩⟩) w hl
def hy1 : LK := [(.bytes [], .x 1),
  (.rn, .x 2000000),
  (.len (.x 0), .x 2),
  (.bin .gtr (.x 2) (.i .i64 (.ofNat 7)), .b false),
  (.bin .gtr (.x 2) (.i .i64 (.ofNat 0)), .b true),
  (.idx (.x 0) (.i .i64 (.ofNat 0)), .x 3),
  (.bin .neq (.x 3) (.i .u8 (.ofNat 1)), .b true),
  (.len (.x 1), .i .i64 (.ofNat 0)),
  (.bin .neq (.x 1) (.s 0 0), .b false),
  (.fit (.x 1), .b true),
  (.call 20 [.x 1], .i .i64 (.ofNat 1))]
theorem run1 (e : Nat) : Go.AX.okB (call (tbl hy1) 9000 4 [.es, .x 0, .es] ⟨H0 e , 1, 0, 0⟩) = true := by kernel_rfl
def nu1 (ad_z : Option Addr) (cp_z : Nat) (mo : LB) (ad_at_ : Option Addr) (cp_at_ : Nat) : List Value := [St' mo,
  St' ([] : LB),
  .int .i64 ((mo.length : Int)),
  .int .u8 (bt mo 0)]
def ro1 (ad_z : Option Addr) (cp_z : Nat) (mo : LB) (ad_at_ : Option Addr) (cp_at_ : Nat) : List Value := [rwS ([] : List LB)]
theorem on1 (ad_z : Option Addr) (cp_z : Nat) (mo : LB) (ad_at_ : Option Addr) (cp_at_ : Nat) : ∀ j, (nuL (nu1 ad_z cp_z mo ad_at_ cp_at_) j).oneCell' = true := nuL_one (l := nu1 ad_z cp_z mo ad_at_ cp_at_) rfl
theorem path1 (ad_z : Option Addr) (cp_z : Nat) (mo : LB) (ad_at_ : Option Addr) (cp_at_ : Nat) (b0 : mo.length ≤ 9223372036854775807) (h0 : ¬ (7 < (mo.length : Int))) (h1 : 0 < (mo.length : Int)) (h2 : ¬ (bt mo 0 = 1)) (w : World) (hl : laidE w) : CwR 4 #[.slice ad_z 0 cp_z, St' mo, .slice ad_at_ 0 cp_at_] w (.bool true) := by
  have hn0 : ([] : LB).length = 0 := rfl
  have := bt_lo mo 0; have := bt_hi mo 0
  have ho : ∀ k r, (k, r) ∈ hy1 → HOk (cx (nuX (nu1 ad_z cp_z mo ad_at_ cp_at_) (rX (ro1 ad_z cp_z mo ad_at_ cp_at_) (fun _ => .bool true))) (nuX_one (on1 ad_z cp_z mo ad_at_ cp_at_)) 1 laidE laidE_stab) k r := by
    unfold hy1
    exact hc (kBytesB (bs := ([] : LB)) .nil (denX rfl)) <|
     hc (kRn (denX rfl)) <|
     hc (lnV rfl rfl (by omega)) <|
     hc (gtcF rfl (by omega)) <|
     hc (gtcT rfl (by omega)) <|
     hc (ixC rfl rfl (by omega)) <|
     hc (necT rfl (by omega)) <|
     hc (kLenE (isX rfl) (denZ (m := 0) rfl) rfl) <|
     hc (kNeS (isX rfl) (isSx (l := ([] : LB)) 0 0 rfl) (bnF (decide_eq_true rfl))) <|
     hc (kFit (isX rfl) (by first | omega | (simp <;> omega))) <|
     hc (hokNds (isX rfl) (denZ (m := ndS []) rfl) (by simp)) <|
     hnil
  obtain ⟨fi, hfi, hb⟩ := fiE
  exact runP (tb := (tbl hy1)) ((tabkOk (nuX (nu1 ad_z cp_z mo ad_at_ cp_at_) (rX (ro1 ad_z cp_z mo ad_at_ cp_at_) (fun _ => .bool true))) (nuX_one (on1 ad_z cp_z mo ad_at_ cp_at_))).hyps ho) rfl hfi hb (fun e => run1 e ) (args := [.slice ad_z 0 cp_z, St' mo, .slice ad_at_ 0 cp_at_]) (by simp only [RelL, Rel]; exact ⟨_, _, rfl, ⟨_, _, rfl⟩, ⟨_, _, rfl, rfl, ⟨_, _, rfl, ⟨_, _, rfl⟩, rfl⟩⟩⟩) w hl
def hy2 : LK := [(.bytes [], .x 1),
  (.rn, .x 2000000),
  (.len (.x 0), .x 2),
  (.bin .gtr (.x 2) (.i .i64 (.ofNat 7)), .b false),
  (.bin .gtr (.x 2) (.i .i64 (.ofNat 0)), .b true),
  (.idx (.x 0) (.i .i64 (.ofNat 0)), .x 3),
  (.bin .neq (.x 3) (.i .u8 (.ofNat 1)), .b false),
  (.bin .add (.s 0 0) (.x 0), .x 4),
  (.byt (.x 4) (.i .i64 (.ofNat 0)), .x 5),
  (.fit (.x 4), .b true),
  (.len (.x 4), .x 6),
  (.bin .lss (.x 6) (.i .i64 (.ofNat 0)), .b false),
  (.bin .geq (.x 6) (.i .i64 (.ofNat 6)), .b false),
  (.bin .neq (.x 4) (.s 0 0), .b true),
  (.idx (.x 4) (.i .i64 (.ofNat 0)), .x 7),
  (.bin .neq (.x 7) (.i .u8 (.ofNat 1)), .b false),
  (.bin .lss (.x 6) (.i .i64 (.ofNat 8)), .b true),
  (.call 20 [.x 4], .x 8),
  (.bin .eql (.x 6) (.x 2), .b true),
  (.len (.x 9), .x 10),
  (.bin .eql (.x 10) (.x 2), .b true)]
def lh19 : LH := ⟨1, 300, 420, [(2, .b ⟨53, .l [.i .i64 (.ofNat 65535), .nils, .i .i64 (.ofNat 0), .b false], 0, 0, 0, false, false⟩)], [(302, .b ⟨53, .l [.i .i64 (.ofNat 65535), .sy 300, .und, .b false], 0, 0, 0, false, false⟩), (300, .t 9 5)]⟩
def lf19 : LF := ⟨19, 137, [(2, .es), (7, .x 4), (10, .p 2 0), (13, .nils), (14, .i .i64 (.ofNat 0))], [0, 1, 9, 11, 12], (.exit 2), [(10, .p 302 0), (13, .nils)], some lh19⟩
noncomputable def tab2 : Tab := addLps ({ tabk with hyp := hy2 }) 4 fi4 [lf19]
theorem run2 (e : Nat) : Go.AX.okB (call tab2 9000 4 [.es, .x 0, .es] ⟨H0 e , 1, 0, 0⟩) = true := by kernel_rfl
def nu2 (ad_z : Option Addr) (cp_z : Nat) (mo : LB) (ad_at_ : Option Addr) (cp_at_ : Nat) : List Value := [St' mo,
  St' ([] : LB),
  .int .i64 ((mo.length : Int)),
  .int .u8 (bt mo 0),
  St' mo,
  .int .u8 (bt mo 0),
  .int .i64 ((mo.length : Int)),
  .int .u8 (bt mo 0),
  .int .i64 ((ndS mo)),
  St' ((cU mo).2.1),
  .int .i64 (((cU mo).2.1.length : Int))]
def ro2 (ad_z : Option Addr) (cp_z : Nat) (mo : LB) (ad_at_ : Option Addr) (cp_at_ : Nat) : List Value := [rwS ([] : List LB)]
theorem on2 (ad_z : Option Addr) (cp_z : Nat) (mo : LB) (ad_at_ : Option Addr) (cp_at_ : Nat) : ∀ j, (nuL (nu2 ad_z cp_z mo ad_at_ cp_at_) j).oneCell' = true := nuL_one (l := nu2 ad_z cp_z mo ad_at_ cp_at_) rfl
theorem path2 (ad_z : Option Addr) (cp_z : Nat) (mo : LB) (ad_at_ : Option Addr) (cp_at_ : Nat) (b0 : mo.length ≤ 9223372036854775807) (h0 : ¬ (7 < (mo.length : Int))) (h1 : 0 < (mo.length : Int)) (h2 : bt mo 0 = 1) (h5 : ¬ (6 ≤ (mo.length : Int))) (w : World) (hl : laidE w) : CwR 4 #[.slice ad_z 0 cp_z, St' mo, .slice ad_at_ 0 cp_at_] w (.bool true) := by
  have hn0 : ([] : LB).length = 0 := rfl
  have := bt_lo mo 0; have := bt_hi mo 0
  obtain ⟨hX1, hX2, hX3, hX4⟩ := fX1 (m := mo) (by omega) (by omega)
  have hX5 := congrArg List.length hX1; have hX6 := congrArg List.length hX2
  have hSl : (mo).length ≤ 10000 := by first | omega | (simp only [List.length_append]; omega)
  have ho : ∀ k r, (k, r) ∈ hy2 → HOk (cx (nuX (nu2 ad_z cp_z mo ad_at_ cp_at_) (rX (ro2 ad_z cp_z mo ad_at_ cp_at_) (fun _ => .bool true))) (nuX_one (on2 ad_z cp_z mo ad_at_ cp_at_)) 1 laidE laidE_stab) k r := by
    unfold hy2
    exact hc (kBytesB (bs := ([] : LB)) .nil (denX rfl)) <|
     hc (kRn (denX rfl)) <|
     hc (lnV rfl rfl (by omega)) <|
     hc (gtcF rfl (by omega)) <|
     hc (gtcT rfl (by omega)) <|
     hc (ixC rfl rfl (by omega)) <|
     hc (necF rfl (by omega)) <|
     hc (kCat (isSx (l := ([] : LB)) 0 0 rfl) (isX rfl) (denX rfl) (by first | rfl | (simp; done)) (by omega)) <|
     hc (kByt (i := 0) (isX rfl) (isZ (m := 0) rfl) (denX rfl) rfl (by first | omega | (simp <;> omega)) rfl) <|
     hc (kFit (isX rfl) (by first | omega | (simp <;> omega))) <|
     hc (lnV rfl rfl (by omega)) <|
     hc (ltcF rfl (by omega)) <|
     hc (gecF rfl (by omega)) <|
     hc (kNeS (isX rfl) (isSx (l := ([] : LB)) 0 0 rfl) (bnT (nilF (by omega)))) <|
     hc (ixC rfl rfl (by omega)) <|
     hc (necF rfl (by omega)) <|
     hc (ltcT rfl (by omega)) <|
     hc (hokNds (isX rfl) (denX rfl) (by omega)) <|
     hc (eqXT rfl rfl (by omega)) <|
     hc (lnV rfl rfl (by omega)) <|
     hc (eqXT rfl rfl (by omega)) <|
     hnil
  exact runP (tb := tab2) (AllOk.lp1 ((tabkOk (nuX (nu2 ad_z cp_z mo ad_at_ cp_at_) (rX (ro2 ad_z cp_z mo ad_at_ cp_at_) (fun _ => .bool true))) (nuX_one (on2 ad_z cp_z mo ad_at_ cp_at_))).hyps ho) (by omega) fi4_at fi4_body (lfCons (lpKnown rfl ⟨1, keyFd0, lfOkFd0_1 (l := lf19) (h := lh19) mo (by omega) (by omega) (0, mo, [], (0 : Int), (0 : Int)) (mkIFd0 mo 0 mo [] (0 : Int) (0 : Int) ⟨rfl, hSl, hX4, by omega, by simp, (by rw [cU_nil]; exact nd_nil (by omega)), fun _ => rfl, fun h => by omega, fun h => absurd rfl h, fun h => by omega, by omega⟩) rfl (by kernel_rfl) (th0 := [(0, .x 4), (1, .i .i64 (.ofNat 0))]) (sg0 := [(302, 2)]) (fun X => thXv (v := St' mo) rfl rfl (thCons (show Is _ (.i .i64 (.ofNat 0)) (.int .i64 ((0 : Int))) from isTo (v := .int .i64 0) (isI _ _) (by first | rfl | (congr 1; omega))) (thNil))) (by kernel_rfl) (thx := [(9, .x 0)]) (thXv (v := St' ((cU mo).2.1)) rfl rfl (thNil)) (by kernel_rfl)⟩) lfNil)) rfl (get_lps (by omega)) fiB4 (fun e => run2 e ) (args := [.slice ad_z 0 cp_z, St' mo, .slice ad_at_ 0 cp_at_]) (by simp only [RelL, Rel]; exact ⟨_, _, rfl, ⟨_, _, rfl⟩, ⟨_, _, rfl, rfl, ⟨_, _, rfl, ⟨_, _, rfl⟩, rfl⟩⟩⟩) w hl
end Go.Proofs.YtlfmfmegnenohaaDoor.cutterCuts
