/- A part of the proof: an interpreter of the model's own code on partly known states, and that what it answers is what the program answers. No condition of its own. -/
import Derived.Test.YtlfmfmegnenohaaDoorG1CutterCutsO8
set_option maxRecDepth 100000
set_option linter.unusedVariables false
set_option linter.unusedSimpArgs false
set_option maxHeartbeats 4000000
namespace Go.Proofs.YtlfmfmegnenohaaDoor.cutterCuts
open Go Go.AX Go.Proofs Go.Proofs.YtlfmfmegnenohaaDoor
def hy15 : LK := [(.bytes [], .x 1),
  (.rn, .x 2000002),
  (.rl (.x 2000000) 4, .x 2),
  (.bin .gtr (.x 2) (.i .i64 (.ofNat 10)), .b true)]
theorem run15 (e : Nat) : Go.AX.okB (call (tbl hy15) 9000 4 [.sr 1, .x 0, .sr 2] ⟨addR 1 [.r 2000000 26 4 true, .r 2000001 5 1 true] (H0 e ), 1 + List.length (α := Ent) [.r 2000000 26 4 true, .r 2000001 5 1 true], 0, 0⟩) = true := by kernel_rfl
def nu15 (blk_z : Nat) (base_z : Nat) (es_z : Nat) (z : List (Int × Int × LB × Int)) (mo : LB) (blk_at_ : Nat) (base_at_ : Nat) (es_at_ : Nat) (at_ : List Int) : List Value := [St' mo,
  St' ([] : LB),
  .int .i64 ((z.length : Int))]
def ro15 (blk_z : Nat) (base_z : Nat) (es_z : Nat) (z : List (Int × Int × LB × Int)) (mo : LB) (blk_at_ : Nat) (base_at_ : Nat) (es_at_ : Nat) (at_ : List Int) : List Value := [rwG reC z,
  rwI .u8 at_,
  rwS ([] : List LB)]
theorem on15 (blk_z : Nat) (base_z : Nat) (es_z : Nat) (z : List (Int × Int × LB × Int)) (mo : LB) (blk_at_ : Nat) (base_at_ : Nat) (es_at_ : Nat) (at_ : List Int) : ∀ j, (nuL (nu15 blk_z base_z es_z z mo blk_at_ base_at_ es_at_ at_) j).oneCell' = true := nuL_one (l := nu15 blk_z base_z es_z z mo blk_at_ base_at_ es_at_ at_) rfl
theorem path15 (blk_z : Nat) (base_z : Nat) (es_z : Nat) (z : List (Int × Int × LB × Int)) (mo : LB) (blk_at_ : Nat) (base_at_ : Nat) (es_at_ : Nat) (at_ : List Int) (b0 : 1 ≤ z.length) (b1 : ∀ n, n ∈ z → reB n) (b2 : z.length ≤ 9223372036854775807) (b3 : mo.length ≤ 9223372036854775807) (b4 : 1 ≤ at_.length) (b5 : ∀ n, n ∈ at_ → 0 ≤ n ∧ n ≤ 255) (b6 : at_.length ≤ 9223372036854775807) (h0 : 10 < (z.length : Int)) (w : World) (hl : laidE w) (w_z : InRow w 4 (z.flatMap reC) blk_z base_z z.length es_z) (g_z : ∀ e, (H0 e ).get blk_z = none) (w_at_ : InRow w 1 (at_.map (Value.int .u8)) blk_at_ base_at_ at_.length es_at_) (g_at_ : ∀ e, (H0 e ).get blk_at_ = none) : CwR 4 #[.slice (some ⟨blk_z, base_z, none⟩) z.length es_z, St' mo, .slice (some ⟨blk_at_, base_at_, none⟩) at_.length es_at_] w (.bool true) := by
  have hn0 : ([] : LB).length = 0 := rfl
  have ho : ∀ k r, (k, r) ∈ hy15 → HOk (cx (nuX (nu15 blk_z base_z es_z z mo blk_at_ base_at_ es_at_ at_) (rX (ro15 blk_z base_z es_z z mo blk_at_ base_at_ es_at_ at_) (fun _ => .bool true))) (nuX_one (on15 blk_z base_z es_z z mo blk_at_ base_at_ es_at_ at_)) 1 laidE laidE_stab) k r := by
    unfold hy15
    exact hc (kBytesB (bs := ([] : LB)) .nil (denX rfl)) <|
     hc (kRn (denX rfl)) <|
     hc (kRlG reC_len (isX rfl) (denX rfl) (by first | omega | (simp <;> omega))) <|
     hc (gtcT rfl (by omega)) <|
     hnil
  obtain ⟨fi, hfi, hb⟩ := fiE
  exact runPR (tb := (tbl hy15)) ((tabkOk (nuX (nu15 blk_z base_z es_z z mo blk_at_ base_at_ es_at_ at_) (rX (ro15 blk_z base_z es_z z mo blk_at_ base_at_ es_at_ at_) (fun _ => .bool true))) (nuX_one (on15 blk_z base_z es_z z mo blk_at_ base_at_ es_at_ at_))).hyps ho) rfl hfi hb [.r 2000000 26 4 true, .r 2000001 5 1 true] [⟨blk_z, base_z, z.length, es_z⟩, ⟨blk_at_, base_at_, at_.length, es_at_⟩] (fun e => run15 e ) (args := [.slice (some ⟨blk_z, base_z, none⟩) z.length es_z, St' mo, .slice (some ⟨blk_at_, base_at_, none⟩) at_.length es_at_]) ⟨_, _, rfl, relSrN (by decide) rfl w_z.room, ⟨_, _, rfl, rfl, ⟨_, _, rfl, relSrN (by decide) rfl w_at_.room, rfl⟩⟩⟩ w hl rfl (by decide) (fun e => (argsCons (w_z.arg (g_z e ) rfl) (argsCons (w_at_.arg (g_at_ e ) rfl) argsNil))) rfl
def hy16 : LK := [(.bytes [], .x 1),
  (.rn, .x 2000000),
  (.len (.x 0), .x 2),
  (.bin .gtr (.x 2) (.i .i64 (.ofNat 7)), .b true)]
theorem run16 (e : Nat) : Go.AX.okB (call (tbl hy16) 9000 4 [.es, .x 0, .es] ⟨H0 e , 1, 0, 0⟩) = true := by kernel_rfl
def nu16 (ad_z : Option Addr) (cp_z : Nat) (mo : LB) (ad_at_ : Option Addr) (cp_at_ : Nat) : List Value := [St' mo,
  St' ([] : LB),
  .int .i64 ((mo.length : Int))]
def ro16 (ad_z : Option Addr) (cp_z : Nat) (mo : LB) (ad_at_ : Option Addr) (cp_at_ : Nat) : List Value := [rwS ([] : List LB)]
theorem on16 (ad_z : Option Addr) (cp_z : Nat) (mo : LB) (ad_at_ : Option Addr) (cp_at_ : Nat) : ∀ j, (nuL (nu16 ad_z cp_z mo ad_at_ cp_at_) j).oneCell' = true := nuL_one (l := nu16 ad_z cp_z mo ad_at_ cp_at_) rfl
theorem path16 (ad_z : Option Addr) (cp_z : Nat) (mo : LB) (ad_at_ : Option Addr) (cp_at_ : Nat) (b0 : mo.length ≤ 9223372036854775807) (h0 : 7 < (mo.length : Int)) (w : World) (hl : laidE w) : CwR 4 #[.slice ad_z 0 cp_z, St' mo, .slice ad_at_ 0 cp_at_] w (.bool true) := by
  have hn0 : ([] : LB).length = 0 := rfl
  have ho : ∀ k r, (k, r) ∈ hy16 → HOk (cx (nuX (nu16 ad_z cp_z mo ad_at_ cp_at_) (rX (ro16 ad_z cp_z mo ad_at_ cp_at_) (fun _ => .bool true))) (nuX_one (on16 ad_z cp_z mo ad_at_ cp_at_)) 1 laidE laidE_stab) k r := by
    unfold hy16
    exact hc (kBytesB (bs := ([] : LB)) .nil (denX rfl)) <|
     hc (kRn (denX rfl)) <|
     hc (lnV rfl rfl (by omega)) <|
     hc (gtcT rfl (by omega)) <|
     hnil
  obtain ⟨fi, hfi, hb⟩ := fiE
  exact runP (tb := (tbl hy16)) ((tabkOk (nuX (nu16 ad_z cp_z mo ad_at_ cp_at_) (rX (ro16 ad_z cp_z mo ad_at_ cp_at_) (fun _ => .bool true))) (nuX_one (on16 ad_z cp_z mo ad_at_ cp_at_))).hyps ho) rfl hfi hb (fun e => run16 e ) (args := [.slice ad_z 0 cp_z, St' mo, .slice ad_at_ 0 cp_at_]) (by simp only [RelL, Rel]; exact ⟨_, _, rfl, ⟨_, _, rfl⟩, ⟨_, _, rfl, rfl, ⟨_, _, rfl, ⟨_, _, rfl⟩, rfl⟩⟩⟩) w hl
def hy17 : LK := [(.bytes [], .x 1),
  (.rn, .x 2000001),
  (.len (.x 0), .x 2),
  (.bin .gtr (.x 2) (.i .i64 (.ofNat 7)), .b true)]
theorem run17 (e : Nat) : Go.AX.okB (call (tbl hy17) 9000 4 [.es, .x 0, .sr 2] ⟨addR 1 [.r 2000000 5 1 true, .r 2000000 5 1 true] (H0 e ), 1 + List.length (α := Ent) [.r 2000000 5 1 true, .r 2000000 5 1 true], 0, 0⟩) = true := by kernel_rfl
def nu17 (ad_z : Option Addr) (cp_z : Nat) (mo : LB) (blk_at_ : Nat) (base_at_ : Nat) (es_at_ : Nat) (at_ : List Int) : List Value := [St' mo,
  St' ([] : LB),
  .int .i64 ((mo.length : Int))]
def ro17 (ad_z : Option Addr) (cp_z : Nat) (mo : LB) (blk_at_ : Nat) (base_at_ : Nat) (es_at_ : Nat) (at_ : List Int) : List Value := [rwI .u8 at_,
  rwS ([] : List LB)]
theorem on17 (ad_z : Option Addr) (cp_z : Nat) (mo : LB) (blk_at_ : Nat) (base_at_ : Nat) (es_at_ : Nat) (at_ : List Int) : ∀ j, (nuL (nu17 ad_z cp_z mo blk_at_ base_at_ es_at_ at_) j).oneCell' = true := nuL_one (l := nu17 ad_z cp_z mo blk_at_ base_at_ es_at_ at_) rfl
theorem path17 (ad_z : Option Addr) (cp_z : Nat) (mo : LB) (blk_at_ : Nat) (base_at_ : Nat) (es_at_ : Nat) (at_ : List Int) (b0 : mo.length ≤ 9223372036854775807) (b1 : 1 ≤ at_.length) (b2 : ∀ n, n ∈ at_ → 0 ≤ n ∧ n ≤ 255) (b3 : at_.length ≤ 9223372036854775807) (h0 : 7 < (mo.length : Int)) (w : World) (hl : laidE w) (w_at_ : InRow w 1 (at_.map (Value.int .u8)) blk_at_ base_at_ at_.length es_at_) (g_at_ : ∀ e, (H0 e ).get blk_at_ = none) : CwR 4 #[.slice ad_z 0 cp_z, St' mo, .slice (some ⟨blk_at_, base_at_, none⟩) at_.length es_at_] w (.bool true) := by
  have hn0 : ([] : LB).length = 0 := rfl
  have ho : ∀ k r, (k, r) ∈ hy17 → HOk (cx (nuX (nu17 ad_z cp_z mo blk_at_ base_at_ es_at_ at_) (rX (ro17 ad_z cp_z mo blk_at_ base_at_ es_at_ at_) (fun _ => .bool true))) (nuX_one (on17 ad_z cp_z mo blk_at_ base_at_ es_at_ at_)) 1 laidE laidE_stab) k r := by
    unfold hy17
    exact hc (kBytesB (bs := ([] : LB)) .nil (denX rfl)) <|
     hc (kRn (denX rfl)) <|
     hc (lnV rfl rfl (by omega)) <|
     hc (gtcT rfl (by omega)) <|
     hnil
  obtain ⟨fi, hfi, hb⟩ := fiE
  exact runPR (tb := (tbl hy17)) ((tabkOk (nuX (nu17 ad_z cp_z mo blk_at_ base_at_ es_at_ at_) (rX (ro17 ad_z cp_z mo blk_at_ base_at_ es_at_ at_) (fun _ => .bool true))) (nuX_one (on17 ad_z cp_z mo blk_at_ base_at_ es_at_ at_))).hyps ho) rfl hfi hb [.r 2000000 5 1 true, .r 2000000 5 1 true] [⟨blk_at_, base_at_, at_.length, es_at_⟩, ⟨blk_at_, base_at_, at_.length, es_at_⟩] (fun e => run17 e ) (args := [.slice ad_z 0 cp_z, St' mo, .slice (some ⟨blk_at_, base_at_, none⟩) at_.length es_at_]) ⟨_, _, rfl, ⟨_, _, rfl⟩, ⟨_, _, rfl, rfl, ⟨_, _, rfl, relSrN (by decide) rfl w_at_.room, rfl⟩⟩⟩ w hl rfl (by decide) (fun e => (argsCons (w_at_.arg (g_at_ e ) rfl) (argsCons (w_at_.arg (g_at_ e ) rfl) argsNil))) rfl
end Go.Proofs.YtlfmfmegnenohaaDoor.cutterCuts
