/- A part of the proof: an interpreter of the model's own code on partly known states, and that what it answers is what the program answers. No condition of its own. -/
import Derived.Test.YtlfmfmegnenohaaDoorG1CutterStopsO7
set_option maxRecDepth 100000
set_option linter.unusedVariables false
set_option linter.unusedSimpArgs false
set_option maxHeartbeats 4000000
namespace Go.Proofs.YtlfmfmegnenohaaDoor.cutterStops
open Go Go.AX Go.Proofs Go.Proofs.YtlfmfmegnenohaaDoor
def hy27 : LK := [(.bytes [], .x 3),
  (.rn, .x 2000000),
  (.len (.x 1), .x 4),
  (.bin .gtr (.x 4) (.i .i64 (.ofNat 100)), .b false),
  (.bin .rem (.x 0) (.i .u8 (.ofNat 3)), .x 5),
  (.tab [.s 1 7, .s 6 4311746049, .s 8 16777217] (.x 5), .s 1 7),
  (.tab [.i .i64 (.ofNat 13), .i .i64 (.ofNat 12), .i .i64 (.ofNat 10)] (.x 5), .i .i64 (.ofNat 13)),
  (.conv 3 (.x 2), .x 6),
  (.mm false (.i .i64 (.ofNat 0)) (.x 6), .i .i64 (.ofNat 0)),
  (.len (.x 3), .i .i64 (.ofNat 0)),
  (.bin .neq (.x 3) (.s 0 0), .b false),
  (.fit (.x 3), .b true),
  (.call 20 [.x 3], .i .i64 (.ofNat 1)),
  (.bin .add (.s 1 7) (.x 1), .x 7),
  (.bin .add (.x 3) (.x 7), .x 8),
  (.fit (.x 8), .b true),
  (.len (.x 8), .x 9),
  (.bin .lss (.x 9) (.i .i64 (.ofNat 1)), .b false),
  (.bin .geq (.x 9) (.i .i64 (.ofNat 6)), .b true),
  (.idx (.x 8) (.i .i64 (.ofNat 0)), .i .u8 (.ofNat 7)),
  (.bin .neq (.x 8) (.s 0 0), .b true)]
theorem run27 (e : Nat) : Go.AX.okB (call (tbl hy27) 9000 3 [.es, .x 0, .x 1, .x 2] ⟨H0 e , 1, 0, 0⟩) = true := by kernel_rfl
def nu27 (ad_z : Addr) (kd : Int) (tl : LB) (at_ : Int) : List Value := [.int .u8 (kd),
  St' tl,
  .int .u8 (at_),
  St' ([] : LB),
  .int .i64 ((tl.length : Int)),
  .int .u8 (kd % 3),
  .int .i64 (at_),
  St' ([u8 7] ++ tl),
  St' ([u8 7] ++ tl),
  .int .i64 ((tl.length : Int) + 1)]
def ro27 (ad_z : Addr) (kd : Int) (tl : LB) (at_ : Int) : List Value := [rwS ([] : List LB)]
theorem on27 (ad_z : Addr) (kd : Int) (tl : LB) (at_ : Int) : ∀ j, (nuL (nu27 ad_z kd tl at_) j).oneCell' = true := nuL_one (l := nu27 ad_z kd tl at_) rfl
theorem path27 (ad_z : Addr) (kd : Int) (tl : LB) (at_ : Int) (b0 : 0 ≤ kd) (b1 : kd ≤ 255) (b2 : tl.length ≤ 9223372036854775807) (b3 : 0 ≤ at_) (b4 : at_ ≤ 255) (h0 : ¬ (100 < (tl.length : Int))) (h1 : kd % 3 = 0) (h3 : 6 ≤ (tl.length : Int) + 1) (w : World) (hl : laidE w) : CwR 3 #[.slice (some ad_z) 0 0, .int .u8 kd, St' tl, .int .u8 at_] w (.bool true) := by
  have ho : ∀ k r, (k, r) ∈ hy27 → HOk (cx (nuX (nu27 ad_z kd tl at_) (rX (ro27 ad_z kd tl at_) (fun _ => .bool true))) (nuX_one (on27 ad_z kd tl at_)) 1 laidE laidE_stab) k r := by
    unfold hy27
    exact hc (kBytesB (bs := ([] : LB)) .nil (denX rfl)) <|
     hc (kRn (denX rfl)) <|
     hc (lnV rfl rfl (by omega)) <|
     hc (gtcF rfl (by omega)) <|
     hc (kRem (isX rfl) (isZ (m := 3) rfl) (denX rfl) (by omega) (by omega) rfl) <|
     hc (kTabK (j := 0) (isX rfl) (by omega) rfl) <|
     hc (kTabK (j := 0) (isX rfl) (by omega) rfl) <|
     hc (kConvF (isX rfl) tu3 (denX rfl) (fI64 (by omega) (by omega))) <|
     hc (kMin (isZ (m := 0) rfl) (isX rfl) (denZ (m := 0) rfl) (by omega)) <|
     hc (kLenE (isX rfl) (denZ (m := 0) rfl) rfl) <|
     hc (kNeS (isX rfl) (isSx (l := ([] : LB)) 0 0 rfl) (bnF (decide_eq_true rfl))) <|
     hc (kFit (isX rfl) (by first | omega | (simp <;> omega))) <|
     hc (hokNds (isX rfl) (denZ (m := ndS []) rfl) (by simp)) <|
     hc (kCat (isSx (l := [u8 7]) 1 7 rfl) (isX rfl) (denX rfl) (by first | rfl | (simp; done)) (by first | omega | (simp <;> omega))) <|
     hc (kCat (isX rfl) (isX rfl) (denX rfl) (by first | rfl | (simp; done)) (by first | omega | (simp <;> omega))) <|
     hc (kFit (isX rfl) (by first | omega | (simp <;> omega))) <|
     hc (lnV rfl rfl (by first | omega | (simp <;> omega))) <|
     hc (ltcF rfl (by omega)) <|
     hc (gecT rfl (by omega)) <|
     hc (kIdxE (i := 0) (isX rfl) (isZ (m := 0) rfl) (denZ (m := 7) rfl) rfl (by first | omega | (simp <;> omega)) (bt_at rfl (by omega) (by omega))) <|
     hc (kNeS (isX rfl) (isSx (l := ([] : LB)) 0 0 rfl) (bnT (nilF (by first | omega | (simp <;> omega))))) <|
     hnil
  obtain ⟨fi, hfi, hb⟩ := fiE
  exact runP (tb := (tbl hy27)) ((tabkOk (nuX (nu27 ad_z kd tl at_) (rX (ro27 ad_z kd tl at_) (fun _ => .bool true))) (nuX_one (on27 ad_z kd tl at_))).hyps ho) rfl hfi hb (fun e => run27 e ) (args := [.slice (some ad_z) 0 0, .int .u8 kd, St' tl, .int .u8 at_]) (by simp only [RelL, Rel]; exact ⟨_, _, rfl, ⟨_, _, rfl⟩, ⟨_, _, rfl, rfl, ⟨_, _, rfl, rfl, ⟨_, _, rfl, rfl, rfl⟩⟩⟩⟩) w hl
end Go.Proofs.YtlfmfmegnenohaaDoor.cutterStops
