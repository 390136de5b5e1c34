/- A part of the proof: an interpreter of the model's own code on partly known states, and that what it answers is what the program answers. No condition of its own. -/
import Derived.Test.YtlfmfmegnenohaaDoorG1CutterStopsO7
set_option maxRecDepth 100000
set_option linter.unusedVariables false
set_option linter.unusedSimpArgs false
set_option maxHeartbeats 4000000
namespace Go.Proofs.YtlfmfmegnenohaaDoor.cutterStops
open Go Go.AX Go.Proofs Go.Proofs.YtlfmfmegnenohaaDoor
def hy21 : LK := [(.bytes [], .x 3),
  (.rn, .x 2000001),
  (.rl (.x 2000000) 4, .x 4),
  (.bin .gtr (.x 4) (.i .i64 (.ofNat 6)), .b false),
  (.len (.x 1), .x 5),
  (.bin .gtr (.x 5) (.i .i64 (.ofNat 100)), .b true)]
theorem run21 (e : Nat) : Go.AX.okB (call (tbl hy21) 9000 3 [.sr 1, .x 0, .x 1, .x 2] ⟨addR 1 [.r 2000000 26 4 true] (H0 e ), 1 + List.length (α := Ent) [.r 2000000 26 4 true], 0, 0⟩) = true := by kernel_rfl
def nu21 (blk_z : Nat) (base_z : Nat) (es_z : Nat) (z : List (Int × Int × LB × Int)) (kd : Int) (tl : LB) (at_ : Int) : List Value := [.int .u8 (kd),
  St' tl,
  .int .u8 (at_),
  St' ([] : LB),
  .int .i64 ((z.length : Int)),
  .int .i64 ((tl.length : Int))]
def ro21 (blk_z : Nat) (base_z : Nat) (es_z : Nat) (z : List (Int × Int × LB × Int)) (kd : Int) (tl : LB) (at_ : Int) : List Value := [rwG reC z,
  rwS ([] : List LB)]
theorem on21 (blk_z : Nat) (base_z : Nat) (es_z : Nat) (z : List (Int × Int × LB × Int)) (kd : Int) (tl : LB) (at_ : Int) : ∀ j, (nuL (nu21 blk_z base_z es_z z kd tl at_) j).oneCell' = true := nuL_one (l := nu21 blk_z base_z es_z z kd tl at_) rfl
theorem path21 (blk_z : Nat) (base_z : Nat) (es_z : Nat) (z : List (Int × Int × LB × Int)) (kd : Int) (tl : LB) (at_ : Int) (b0 : ∀ n, n ∈ z → reB n) (b1 : z.length ≤ 9223372036854775807) (b2 : 0 ≤ kd) (b3 : kd ≤ 255) (b4 : tl.length ≤ 9223372036854775807) (b5 : 0 ≤ at_) (b6 : at_ ≤ 255) (h0 : ¬ (6 < (z.length : Int))) (h1 : 100 < (tl.length : Int)) (w : World) (hl : laidE w) (w_z : InRow w 4 (z.flatMap reC) blk_z base_z z.length es_z) (g_z : ∀ e, (H0 e ).get blk_z = none) : CwR 3 #[.slice (some ⟨blk_z, base_z, none⟩) z.length es_z, .int .u8 kd, St' tl, .int .u8 at_] w (.bool true) := by
  have ho : ∀ k r, (k, r) ∈ hy21 → HOk (cx (nuX (nu21 blk_z base_z es_z z kd tl at_) (rX (ro21 blk_z base_z es_z z kd tl at_) (fun _ => .bool true))) (nuX_one (on21 blk_z base_z es_z z kd tl at_)) 1 laidE laidE_stab) k r := by
    unfold hy21
    exact hc (kBytesB (bs := ([] : LB)) .nil (denX rfl)) <|
     hc (kRn (denX rfl)) <|
     hc (kRlG reC_len (isX rfl) (denX rfl) (by first | omega | (simp <;> omega))) <|
     hc (gtcF rfl (by omega)) <|
     hc (lnV rfl rfl (by omega)) <|
     hc (gtcT rfl (by omega)) <|
     hnil
  obtain ⟨fi, hfi, hb⟩ := fiE
  exact runPR (tb := (tbl hy21)) ((tabkOk (nuX (nu21 blk_z base_z es_z z kd tl at_) (rX (ro21 blk_z base_z es_z z kd tl at_) (fun _ => .bool true))) (nuX_one (on21 blk_z base_z es_z z kd tl at_))).hyps ho) rfl hfi hb [.r 2000000 26 4 true] [⟨blk_z, base_z, z.length, es_z⟩] (fun e => run21 e ) (args := [.slice (some ⟨blk_z, base_z, none⟩) z.length es_z, .int .u8 kd, St' tl, .int .u8 at_]) ⟨_, _, rfl, relSrN (by decide) rfl w_z.room, ⟨_, _, rfl, rfl, ⟨_, _, rfl, rfl, ⟨_, _, rfl, rfl, rfl⟩⟩⟩⟩ w hl rfl (by decide) (fun e => (argsCons (w_z.arg (g_z e ) rfl) argsNil)) rfl
def hy22 : LK := [(.bytes [], .x 3),
  (.rn, .x 2000001),
  (.rl (.x 2000000) 4, .x 4),
  (.bin .gtr (.x 4) (.i .i64 (.ofNat 6)), .b true)]
theorem run22 (e : Nat) : Go.AX.okB (call (tbl hy22) 9000 3 [.sr 1, .x 0, .x 1, .x 2] ⟨addR 1 [.r 2000000 26 4 true] (H0 e ), 1 + List.length (α := Ent) [.r 2000000 26 4 true], 0, 0⟩) = true := by kernel_rfl
def nu22 (blk_z : Nat) (base_z : Nat) (es_z : Nat) (z : List (Int × Int × LB × Int)) (kd : Int) (tl : LB) (at_ : Int) : List Value := [.int .u8 (kd),
  St' tl,
  .int .u8 (at_),
  St' ([] : LB),
  .int .i64 ((z.length : Int))]
def ro22 (blk_z : Nat) (base_z : Nat) (es_z : Nat) (z : List (Int × Int × LB × Int)) (kd : Int) (tl : LB) (at_ : Int) : List Value := [rwG reC z,
  rwS ([] : List LB)]
theorem on22 (blk_z : Nat) (base_z : Nat) (es_z : Nat) (z : List (Int × Int × LB × Int)) (kd : Int) (tl : LB) (at_ : Int) : ∀ j, (nuL (nu22 blk_z base_z es_z z kd tl at_) j).oneCell' = true := nuL_one (l := nu22 blk_z base_z es_z z kd tl at_) rfl
theorem path22 (blk_z : Nat) (base_z : Nat) (es_z : Nat) (z : List (Int × Int × LB × Int)) (kd : Int) (tl : LB) (at_ : Int) (b0 : ∀ n, n ∈ z → reB n) (b1 : z.length ≤ 9223372036854775807) (b2 : 0 ≤ kd) (b3 : kd ≤ 255) (b4 : tl.length ≤ 9223372036854775807) (b5 : 0 ≤ at_) (b6 : at_ ≤ 255) (h0 : 6 < (z.length : Int)) (w : World) (hl : laidE w) (w_z : InRow w 4 (z.flatMap reC) blk_z base_z z.length es_z) (g_z : ∀ e, (H0 e ).get blk_z = none) : CwR 3 #[.slice (some ⟨blk_z, base_z, none⟩) z.length es_z, .int .u8 kd, St' tl, .int .u8 at_] w (.bool true) := by
  have ho : ∀ k r, (k, r) ∈ hy22 → HOk (cx (nuX (nu22 blk_z base_z es_z z kd tl at_) (rX (ro22 blk_z base_z es_z z kd tl at_) (fun _ => .bool true))) (nuX_one (on22 blk_z base_z es_z z kd tl at_)) 1 laidE laidE_stab) k r := by
    unfold hy22
    exact hc (kBytesB (bs := ([] : LB)) .nil (denX rfl)) <|
     hc (kRn (denX rfl)) <|
     hc (kRlG reC_len (isX rfl) (denX rfl) (by first | omega | (simp <;> omega))) <|
     hc (gtcT rfl (by omega)) <|
     hnil
  obtain ⟨fi, hfi, hb⟩ := fiE
  exact runPR (tb := (tbl hy22)) ((tabkOk (nuX (nu22 blk_z base_z es_z z kd tl at_) (rX (ro22 blk_z base_z es_z z kd tl at_) (fun _ => .bool true))) (nuX_one (on22 blk_z base_z es_z z kd tl at_))).hyps ho) rfl hfi hb [.r 2000000 26 4 true] [⟨blk_z, base_z, z.length, es_z⟩] (fun e => run22 e ) (args := [.slice (some ⟨blk_z, base_z, none⟩) z.length es_z, .int .u8 kd, St' tl, .int .u8 at_]) ⟨_, _, rfl, relSrN (by decide) rfl w_z.room, ⟨_, _, rfl, rfl, ⟨_, _, rfl, rfl, ⟨_, _, rfl, rfl, rfl⟩⟩⟩⟩ w hl rfl (by decide) (fun e => (argsCons (w_z.arg (g_z e ) rfl) argsNil)) rfl
def hy23 : LK := [(.bytes [], .x 3),
  (.rn, .x 2000000),
  (.len (.x 1), .x 4),
  (.bin .gtr (.x 4) (.i .i64 (.ofNat 100)), .b true)]
theorem run23 (e : Nat) : Go.AX.okB (call (tbl hy23) 9000 3 [.nils, .x 0, .x 1, .x 2] ⟨H0 e , 1, 0, 0⟩) = true := by kernel_rfl
def nu23 (kd : Int) (tl : LB) (at_ : Int) : List Value := [.int .u8 (kd),
  St' tl,
  .int .u8 (at_),
  St' ([] : LB),
  .int .i64 ((tl.length : Int))]
def ro23 (kd : Int) (tl : LB) (at_ : Int) : List Value := [rwS ([] : List LB)]
theorem on23 (kd : Int) (tl : LB) (at_ : Int) : ∀ j, (nuL (nu23 kd tl at_) j).oneCell' = true := nuL_one (l := nu23 kd tl at_) rfl
theorem path23 (kd : Int) (tl : LB) (at_ : Int) (b0 : 0 ≤ kd) (b1 : kd ≤ 255) (b2 : tl.length ≤ 9223372036854775807) (b3 : 0 ≤ at_) (b4 : at_ ≤ 255) (h0 : 100 < (tl.length : Int)) (w : World) (hl : laidE w) : CwR 3 #[.slice none 0 0, .int .u8 kd, St' tl, .int .u8 at_] w (.bool true) := by
  have ho : ∀ k r, (k, r) ∈ hy23 → HOk (cx (nuX (nu23 kd tl at_) (rX (ro23 kd tl at_) (fun _ => .bool true))) (nuX_one (on23 kd tl at_)) 1 laidE laidE_stab) k r := by
    unfold hy23
    exact hc (kBytesB (bs := ([] : LB)) .nil (denX rfl)) <|
     hc (kRn (denX rfl)) <|
     hc (lnV rfl rfl (by omega)) <|
     hc (gtcT rfl (by omega)) <|
     hnil
  obtain ⟨fi, hfi, hb⟩ := fiE
  exact runP (tb := (tbl hy23)) ((tabkOk (nuX (nu23 kd tl at_) (rX (ro23 kd tl at_) (fun _ => .bool true))) (nuX_one (on23 kd tl at_))).hyps ho) rfl hfi hb (fun e => run23 e ) (args := [.slice none 0 0, .int .u8 kd, St' tl, .int .u8 at_]) (by simp only [RelL, Rel]; exact ⟨_, _, rfl, rfl, ⟨_, _, rfl, rfl, ⟨_, _, rfl, rfl, ⟨_, _, rfl, rfl, rfl⟩⟩⟩⟩) w hl
end Go.Proofs.YtlfmfmegnenohaaDoor.cutterStops
