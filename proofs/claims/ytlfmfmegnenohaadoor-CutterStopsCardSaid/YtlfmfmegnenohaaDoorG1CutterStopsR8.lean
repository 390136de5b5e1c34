/- A part of the proof: an interpreter of the model's own code on partly known states, and that what it answers is what the program answers. No condition of its own. -/
import Derived.Test.YtlfmfmegnenohaaDoorG1CutterStopsO7
set_option maxRecDepth 100000
set_option linter.unusedVariables false
set_option linter.unusedSimpArgs false
set_option maxHeartbeats 4000000
namespace Go.Proofs.YtlfmfmegnenohaaDoor.cutterStops
open Go Go.AX Go.Proofs Go.Proofs.YtlfmfmegnenohaaDoor
def hy24 : LK := [(.bytes [], .x 3),
  (.rn, .x 2000000),
  (.len (.x 1), .x 4),
  (.bin .gtr (.x 4) (.i .i64 (.ofNat 100)), .b true)]
theorem run24 (e : Nat) : Go.AX.okB (call (tbl hy24) 9000 3 [.es, .x 0, .x 1, .x 2] ⟨H0 e , 1, 0, 0⟩) = true := by kernel_rfl
def nu24 (ad_z : Addr) (kd : Int) (tl : LB) (at_ : Int) : List Value := [.int .u8 (kd),
  St' tl,
  .int .u8 (at_),
  St' ([] : LB),
  .int .i64 ((tl.length : Int))]
def ro24 (ad_z : Addr) (kd : Int) (tl : LB) (at_ : Int) : List Value := [rwS ([] : List LB)]
theorem on24 (ad_z : Addr) (kd : Int) (tl : LB) (at_ : Int) : ∀ j, (nuL (nu24 ad_z kd tl at_) j).oneCell' = true := nuL_one (l := nu24 ad_z kd tl at_) rfl
theorem path24 (ad_z : Addr) (kd : Int) (tl : LB) (at_ : Int) (b0 : 0 ≤ kd) (b1 : kd ≤ 255) (b2 : tl.length ≤ 9223372036854775807) (b3 : 0 ≤ at_) (b4 : at_ ≤ 255) (h0 : 100 < (tl.length : Int)) (w : World) (hl : laidE w) : CwR 3 #[.slice (some ad_z) 0 0, .int .u8 kd, St' tl, .int .u8 at_] w (.bool true) := by
  have ho : ∀ k r, (k, r) ∈ hy24 → HOk (cx (nuX (nu24 ad_z kd tl at_) (rX (ro24 ad_z kd tl at_) (fun _ => .bool true))) (nuX_one (on24 ad_z kd tl at_)) 1 laidE laidE_stab) k r := by
    unfold hy24
    exact hc (kBytesB (bs := ([] : LB)) .nil (denX rfl)) <|
     hc (kRn (denX rfl)) <|
     hc (lnV rfl rfl (by omega)) <|
     hc (gtcT rfl (by omega)) <|
     hnil
  obtain ⟨fi, hfi, hb⟩ := fiE
  exact runP (tb := (tbl hy24)) ((tabkOk (nuX (nu24 ad_z kd tl at_) (rX (ro24 ad_z kd tl at_) (fun _ => .bool true))) (nuX_one (on24 ad_z kd tl at_))).hyps ho) rfl hfi hb (fun e => run24 e ) (args := [.slice (some ad_z) 0 0, .int .u8 kd, St' tl, .int .u8 at_]) (by simp only [RelL, Rel]; exact ⟨_, _, rfl, ⟨_, _, rfl⟩, ⟨_, _, rfl, rfl, ⟨_, _, rfl, rfl, ⟨_, _, rfl, rfl, rfl⟩⟩⟩⟩) w hl
def hy25 : LK := [(.bytes [], .x 3),
  (.rn, .x 2000001),
  (.rl (.x 2000000) 4, .x 4),
  (.bin .gtr (.x 4) (.i .i64 (.ofNat 6)), .b false),
  (.len (.x 1), .x 5),
  (.bin .gtr (.x 5) (.i .i64 (.ofNat 100)), .b false)]
def lh425 : LH := ⟨1, 2, 2, [(1, .r 2000000 26 4 true)], [(1, .r 2000002 26 4 true)]⟩
def lf425 : LF := ⟨7, 125, [(0, .sr 1), (9, .s 0 0), (10, .i .i64 (.ofNat 0))], [1, 2, 3], .ret, [(8, .b true)], some lh425⟩
noncomputable def tab25 : Tab := addLps ({ tabk with hyp := hy25 }) 3 fi3 [lf425]
theorem run25 (e : Nat) : Go.AX.okB (call tab25 9000 3 [.sr 1, .x 0, .x 1, .x 2] ⟨addR 1 [.r 2000000 26 4 true] (H0 e ), 1 + List.length (α := Ent) [.r 2000000 26 4 true], 0, 0⟩) = true := by kernel_rfl
def nu25 (blk_z : Nat) (base_z : Nat) (es_z : Nat) (z : List (Int × Int × LB × Int)) (kd : Int) (tl : LB) (at_ : Int) : List Value := [.int .u8 (kd),
  St' tl,
  .int .u8 (at_),
  St' ([] : LB),
  .int .i64 ((z.length : Int)),
  .int .i64 ((tl.length : Int))]
def ro25 (blk_z : Nat) (base_z : Nat) (es_z : Nat) (z : List (Int × Int × LB × Int)) (kd : Int) (tl : LB) (at_ : Int) : List Value := [rwG reC z,
  rwS ([] : List LB),
  rwG reC z]
theorem on25 (blk_z : Nat) (base_z : Nat) (es_z : Nat) (z : List (Int × Int × LB × Int)) (kd : Int) (tl : LB) (at_ : Int) : ∀ j, (nuL (nu25 blk_z base_z es_z z kd tl at_) j).oneCell' = true := nuL_one (l := nu25 blk_z base_z es_z z kd tl at_) rfl
theorem path25 (blk_z : Nat) (base_z : Nat) (es_z : Nat) (z : List (Int × Int × LB × Int)) (kd : Int) (tl : LB) (at_ : Int) (b0 : ∀ n, n ∈ z → reB n) (b1 : z.length ≤ 9223372036854775807) (b2 : 0 ≤ kd) (b3 : kd ≤ 255) (b4 : tl.length ≤ 9223372036854775807) (b5 : 0 ≤ at_) (b6 : at_ ≤ 255) (h0 : ¬ (6 < (z.length : Int))) (h1 : ¬ (100 < (tl.length : Int))) (h2 : ¬ (okR 100 z)) (w : World) (hl : laidE w) (w_z : InRow w 4 (z.flatMap reC) blk_z base_z z.length es_z) (g_z : ∀ e, (H0 e ).get blk_z = none) : CwR 3 #[.slice (some ⟨blk_z, base_z, none⟩) z.length es_z, .int .u8 kd, St' tl, .int .u8 at_] w (.bool true) := by
  have ho : ∀ k r, (k, r) ∈ hy25 → HOk (cx (nuX (nu25 blk_z base_z es_z z kd tl at_) (rX (ro25 blk_z base_z es_z z kd tl at_) (fun _ => .bool true))) (nuX_one (on25 blk_z base_z es_z z kd tl at_)) 1 laidE laidE_stab) k r := by
    unfold hy25
    exact hc (kBytesB (bs := ([] : LB)) .nil (denX rfl)) <|
     hc (kRn (denX rfl)) <|
     hc (kRlG reC_len (isX rfl) (denX rfl) (by first | omega | (simp <;> omega))) <|
     hc (gtcF rfl (by omega)) <|
     hc (lnV rfl rfl (by omega)) <|
     hc (gtcF rfl (by omega)) <|
     hnil
  exact runPR (tb := tab25) (AllOk.lp1 ((tabkOk (nuX (nu25 blk_z base_z es_z z kd tl at_) (rX (ro25 blk_z base_z es_z z kd tl at_) (fun _ => .bool true))) (nuX_one (on25 blk_z base_z es_z z kd tl at_))).hyps ho) (by omega) fi3_at fi3_body (lfCons (lpKnown rfl ⟨0, keyLa, lfOkLa_1 (l := lf425) (h := lh425) z (by assumption) (0, (0 : Int), ([] : LB)) (mkILa z 0 (0 : Int) ([] : LB) ⟨by omega, by omega, by omega, by assumption, by simp, rfl, (fun r hr => nomatch hr), by omega⟩) rfl (by kernel_rfl) (th0 := [(0, .i .i64 (.ofNat 0)), (1, .s 0 0), (2000000, .x 2000000)]) (sg0 := []) (fun X => thCons (show Is _ (.i .i64 (.ofNat 0)) (.int .i64 ((0 : Int))) from isTo (v := .int .i64 0) (isI _ _) (by first | rfl | (congr 1; omega))) (thCons (show Is _ (.s 0 0) (St' ([] : LB)) from isTo (v := St' ([] : LB)) (isSx (l := ([] : LB)) 0 0 rfl) (by first | rfl | (simp; done))) (thXv (v := rwG reC z) rfl rfl (thNil)))) (by kernel_rfl) (thx := [(2000002, .x 2000000)]) (thXv (v := rwG reC z) rfl rfl (thNil)) (by kernel_rfl)⟩) lfNil)) rfl (get_lps (by omega)) fiB3 [.r 2000000 26 4 true] [⟨blk_z, base_z, z.length, es_z⟩] (fun e => run25 e ) (args := [.slice (some ⟨blk_z, base_z, none⟩) z.length es_z, .int .u8 kd, St' tl, .int .u8 at_]) ⟨_, _, rfl, relSrN (by decide) rfl w_z.room, ⟨_, _, rfl, rfl, ⟨_, _, rfl, rfl, ⟨_, _, rfl, rfl, rfl⟩⟩⟩⟩ w hl rfl (by decide) (fun e => (argsCons (w_z.arg (g_z e ) rfl) argsNil)) rfl
def hy26 : LK := [(.bytes [], .x 3),
  (.rn, .x 2000000),
  (.len (.x 1), .x 4),
  (.bin .gtr (.x 4) (.i .i64 (.ofNat 100)), .b false),
  (.bin .rem (.x 0) (.i .u8 (.ofNat 3)), .x 5),
  (.tab [.s 1 7, .s 6 4311746049, .s 8 16777217] (.x 5), .s 1 7),
  (.tab [.i .i64 (.ofNat 13), .i .i64 (.ofNat 12), .i .i64 (.ofNat 10)] (.x 5), .i .i64 (.ofNat 13)),
  (.conv 3 (.x 2), .x 6),
  (.mm false (.i .i64 (.ofNat 0)) (.x 6), .i .i64 (.ofNat 0)),
  (.len (.x 3), .i .i64 (.ofNat 0)),
  (.bin .neq (.x 3) (.s 0 0), .b false),
  (.fit (.x 3), .b true),
  (.call 20 [.x 3], .i .i64 (.ofNat 1)),
  (.bin .add (.s 1 7) (.x 1), .x 7),
  (.bin .add (.x 3) (.x 7), .x 8),
  (.fit (.x 8), .b true),
  (.len (.x 8), .x 9),
  (.bin .lss (.x 9) (.i .i64 (.ofNat 1)), .b false),
  (.bin .geq (.x 9) (.i .i64 (.ofNat 6)), .b true),
  (.idx (.x 8) (.i .i64 (.ofNat 0)), .i .u8 (.ofNat 7)),
  (.bin .neq (.x 8) (.s 0 0), .b true)]
theorem run26 (e : Nat) : Go.AX.okB (call (tbl hy26) 9000 3 [.nils, .x 0, .x 1, .x 2] ⟨H0 e , 1, 0, 0⟩) = true := by kernel_rfl
def nu26 (kd : Int) (tl : LB) (at_ : Int) : List Value := [.int .u8 (kd),
  St' tl,
  .int .u8 (at_),
  St' ([] : LB),
  .int .i64 ((tl.length : Int)),
  .int .u8 (kd % 3),
  .int .i64 (at_),
  St' ([u8 7] ++ tl),
  St' ([u8 7] ++ tl),
  .int .i64 ((tl.length : Int) + 1)]
def ro26 (kd : Int) (tl : LB) (at_ : Int) : List Value := [rwS ([] : List LB)]
theorem on26 (kd : Int) (tl : LB) (at_ : Int) : ∀ j, (nuL (nu26 kd tl at_) j).oneCell' = true := nuL_one (l := nu26 kd tl at_) rfl
theorem path26 (kd : Int) (tl : LB) (at_ : Int) (b0 : 0 ≤ kd) (b1 : kd ≤ 255) (b2 : tl.length ≤ 9223372036854775807) (b3 : 0 ≤ at_) (b4 : at_ ≤ 255) (h0 : ¬ (100 < (tl.length : Int))) (h1 : kd % 3 = 0) (h3 : 6 ≤ (tl.length : Int) + 1) (w : World) (hl : laidE w) : CwR 3 #[.slice none 0 0, .int .u8 kd, St' tl, .int .u8 at_] w (.bool true) := by
  have ho : ∀ k r, (k, r) ∈ hy26 → HOk (cx (nuX (nu26 kd tl at_) (rX (ro26 kd tl at_) (fun _ => .bool true))) (nuX_one (on26 kd tl at_)) 1 laidE laidE_stab) k r := by
    unfold hy26
    exact hc (kBytesB (bs := ([] : LB)) .nil (denX rfl)) <|
     hc (kRn (denX rfl)) <|
     hc (lnV rfl rfl (by omega)) <|
     hc (gtcF rfl (by omega)) <|
     hc (kRem (isX rfl) (isZ (m := 3) rfl) (denX rfl) (by omega) (by omega) rfl) <|
     hc (kTabK (j := 0) (isX rfl) (by omega) rfl) <|
     hc (kTabK (j := 0) (isX rfl) (by omega) rfl) <|
     hc (kConvF (isX rfl) tu3 (denX rfl) (fI64 (by omega) (by omega))) <|
     hc (kMin (isZ (m := 0) rfl) (isX rfl) (denZ (m := 0) rfl) (by omega)) <|
     hc (kLenE (isX rfl) (denZ (m := 0) rfl) rfl) <|
     hc (kNeS (isX rfl) (isSx (l := ([] : LB)) 0 0 rfl) (bnF (decide_eq_true rfl))) <|
     hc (kFit (isX rfl) (by first | omega | (simp <;> omega))) <|
     hc (hokNds (isX rfl) (denZ (m := ndS []) rfl) (by simp)) <|
     hc (kCat (isSx (l := [u8 7]) 1 7 rfl) (isX rfl) (denX rfl) (by first | rfl | (simp; done)) (by first | omega | (simp <;> omega))) <|
     hc (kCat (isX rfl) (isX rfl) (denX rfl) (by first | rfl | (simp; done)) (by first | omega | (simp <;> omega))) <|
     hc (kFit (isX rfl) (by first | omega | (simp <;> omega))) <|
     hc (lnV rfl rfl (by first | omega | (simp <;> omega))) <|
     hc (ltcF rfl (by omega)) <|
     hc (gecT rfl (by omega)) <|
     hc (kIdxE (i := 0) (isX rfl) (isZ (m := 0) rfl) (denZ (m := 7) rfl) rfl (by first | omega | (simp <;> omega)) (bt_at rfl (by omega) (by omega))) <|
     hc (kNeS (isX rfl) (isSx (l := ([] : LB)) 0 0 rfl) (bnT (nilF (by first | omega | (simp <;> omega))))) <|
     hnil
  obtain ⟨fi, hfi, hb⟩ := fiE
  exact runP (tb := (tbl hy26)) ((tabkOk (nuX (nu26 kd tl at_) (rX (ro26 kd tl at_) (fun _ => .bool true))) (nuX_one (on26 kd tl at_))).hyps ho) rfl hfi hb (fun e => run26 e ) (args := [.slice none 0 0, .int .u8 kd, St' tl, .int .u8 at_]) (by simp only [RelL, Rel]; exact ⟨_, _, rfl, rfl, ⟨_, _, rfl, rfl, ⟨_, _, rfl, rfl, ⟨_, _, rfl, rfl, rfl⟩⟩⟩⟩) w hl
end Go.Proofs.YtlfmfmegnenohaaDoor.cutterStops
