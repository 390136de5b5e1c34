/- A part of the proof: an interpreter of the model's own code on partly known states, and that what it answers is what the program answers. No condition of its own. -/
import Derived.Test.YtjkdkpdjmapieaaDoorE1FieldBackO5
set_option maxRecDepth 100000
set_option linter.unusedVariables false
set_option linter.unusedSimpArgs false
set_option maxHeartbeats 4000000
namespace Go.Proofs.YtjkdkpdjmapieaaDoor.fieldBack
open Go Go.AX Go.Proofs Go.Proofs.YtjkdkpdjmapieaaDoor
def hy6 : LK := [(.rn, .x 2000000),
  (.call 6 [.ag [.x 0, .x 1]], .b false)]
theorem run6 : Go.AX.okB (call (tbl hy6) 9000 3 [.ag [.x 0, .x 1], .nils, .x 2, .x 3] ⟨H0 , 4, 0, 0⟩) = true := by kernel_rfl
def nu6 (pn : LB) (pv : LB) (be : Int) (bh : Int) : List Value := [St' pn,
  St' pv,
  .int .u8 (be),
  .int .u8 (bh)]
def ro6 (pn : LB) (pv : LB) (be : Int) (bh : Int) : List Value := [rwS ([] : List LB)]
theorem on6 (pn : LB) (pv : LB) (be : Int) (bh : Int) : ∀ j, (nuL (nu6 pn pv be bh) j).oneCell' = true := nuL_one (l := nu6 pn pv be bh) rfl
theorem path6 (pn : LB) (pv : LB) (be : Int) (bh : Int) (b0 : pn.length ≤ 140737488351232) (b1 : pv.length ≤ 140737488351232) (b2 : 0 ≤ be) (b3 : be ≤ 255) (b4 : 0 ≤ bh) (b5 : bh ≤ 255) (h0 : ¬ (isF pn pv = true)) (w : World) (hl : laidE w) : CwR 3 #[.agg #[St' pn, St' pv], .slice none 0 0, .int .u8 be, .int .u8 bh] w (.bool true) := by
  have ho : ∀ k r, (k, r) ∈ hy6 → HOk (cx (nuX (nu6 pn pv be bh) (rX (ro6 pn pv be bh) (fun _ => .bool true))) (nuX_one (on6 pn pv be bh)) 0 laidE laidE_stab) k r := by
    unfold hy6
    exact hc (kRn (denX rfl)) <|
     hc (hokIsA (a := pn) (v := pv) (isAg2 (isX rfl) (isX rfl)) (denBF (by assumption)) (by omega) (by omega)) <|
     hnil
  obtain ⟨fi, hfi, hb⟩ := fiE
  exact runP (tb := (tbl hy6)) ((tabkOk (nuX (nu6 pn pv be bh) (rX (ro6 pn pv be bh) (fun _ => .bool true))) (nuX_one (on6 pn pv be bh))).hyps ho) rfl hfi hb (run6 ) (args := [.agg #[St' pn, St' pv], .slice none 0 0, .int .u8 be, .int .u8 bh]) (by simp only [RelL, Rel]; exact ⟨_, _, rfl, ⟨_, rfl, ⟨_, _, rfl, rfl, ⟨_, _, rfl, rfl, rfl⟩⟩⟩, ⟨_, _, rfl, rfl, ⟨_, _, rfl, rfl, ⟨_, _, rfl, rfl, rfl⟩⟩⟩⟩) w hl
def hy7 : LK := [(.rn, .x 2000000),
  (.call 6 [.ag [.x 0, .x 1]], .b false)]
theorem run7 : Go.AX.okB (call (tbl hy7) 9000 3 [.ag [.x 0, .x 1], .es, .x 2, .x 3] ⟨H0 , 4, 0, 0⟩) = true := by kernel_rfl
def nu7 (pn : LB) (pv : LB) (ad_z : Addr) (be : Int) (bh : Int) : List Value := [St' pn,
  St' pv,
  .int .u8 (be),
  .int .u8 (bh)]
def ro7 (pn : LB) (pv : LB) (ad_z : Addr) (be : Int) (bh : Int) : List Value := [rwS ([] : List LB)]
theorem on7 (pn : LB) (pv : LB) (ad_z : Addr) (be : Int) (bh : Int) : ∀ j, (nuL (nu7 pn pv ad_z be bh) j).oneCell' = true := nuL_one (l := nu7 pn pv ad_z be bh) rfl
theorem path7 (pn : LB) (pv : LB) (ad_z : Addr) (be : Int) (bh : Int) (b0 : pn.length ≤ 140737488351232) (b1 : pv.length ≤ 140737488351232) (b2 : 0 ≤ be) (b3 : be ≤ 255) (b4 : 0 ≤ bh) (b5 : bh ≤ 255) (h0 : ¬ (isF pn pv = true)) (w : World) (hl : laidE w) : CwR 3 #[.agg #[St' pn, St' pv], .slice (some ad_z) 0 0, .int .u8 be, .int .u8 bh] w (.bool true) := by
  have ho : ∀ k r, (k, r) ∈ hy7 → HOk (cx (nuX (nu7 pn pv ad_z be bh) (rX (ro7 pn pv ad_z be bh) (fun _ => .bool true))) (nuX_one (on7 pn pv ad_z be bh)) 0 laidE laidE_stab) k r := by
    unfold hy7
    exact hc (kRn (denX rfl)) <|
     hc (hokIsA (a := pn) (v := pv) (isAg2 (isX rfl) (isX rfl)) (denBF (by assumption)) (by omega) (by omega)) <|
     hnil
  obtain ⟨fi, hfi, hb⟩ := fiE
  exact runP (tb := (tbl hy7)) ((tabkOk (nuX (nu7 pn pv ad_z be bh) (rX (ro7 pn pv ad_z be bh) (fun _ => .bool true))) (nuX_one (on7 pn pv ad_z be bh))).hyps ho) rfl hfi hb (run7 ) (args := [.agg #[St' pn, St' pv], .slice (some ad_z) 0 0, .int .u8 be, .int .u8 bh]) (by simp only [RelL, Rel]; exact ⟨_, _, rfl, ⟨_, rfl, ⟨_, _, rfl, rfl, ⟨_, _, rfl, rfl, rfl⟩⟩⟩, ⟨_, _, rfl, ⟨_, _, rfl⟩, ⟨_, _, rfl, rfl, ⟨_, _, rfl, rfl, rfl⟩⟩⟩⟩) w hl
def hy8 : LK := [(.rn, .x 2000001),
  (.call 6 [.ag [.x 0, .x 1]], .b false)]
theorem run8 : Go.AX.okB (call (tbl hy8) 9000 3 [.ag [.x 0, .x 1], .sr 4, .x 2, .x 3] ⟨addR 4 [.r 2000000 23 2 true] (H0 ), 4 + List.length (α := Ent) [.r 2000000 23 2 true], 0, 0⟩) = true := by kernel_rfl
def nu8 (pn : LB) (pv : LB) (blk_z : Nat) (base_z : Nat) (es_z : Nat) (z : List (LB × LB)) (be : Int) (bh : Int) : List Value := [St' pn,
  St' pv,
  .int .u8 (be),
  .int .u8 (bh)]
def ro8 (pn : LB) (pv : LB) (blk_z : Nat) (base_z : Nat) (es_z : Nat) (z : List (LB × LB)) (be : Int) (bh : Int) : List Value := [rwG prC z,
  rwS ([] : List LB)]
theorem on8 (pn : LB) (pv : LB) (blk_z : Nat) (base_z : Nat) (es_z : Nat) (z : List (LB × LB)) (be : Int) (bh : Int) : ∀ j, (nuL (nu8 pn pv blk_z base_z es_z z be bh) j).oneCell' = true := nuL_one (l := nu8 pn pv blk_z base_z es_z z be bh) rfl
theorem path8 (pn : LB) (pv : LB) (blk_z : Nat) (base_z : Nat) (es_z : Nat) (z : List (LB × LB)) (be : Int) (bh : Int) (b0 : pn.length ≤ 140737488351232) (b1 : pv.length ≤ 140737488351232) (b2 : ∀ n, n ∈ z → prB n) (b3 : ∀ q, q ∈ z → q.1.length ≤ 140737488351232) (b4 : ∀ q, q ∈ z → q.2.length ≤ 140737488351232) (b5 : z.length ≤ 9223372036854775807) (b6 : 0 ≤ be) (b7 : be ≤ 255) (b8 : 0 ≤ bh) (b9 : bh ≤ 255) (h0 : ¬ (isF pn pv = true)) (w : World) (hl : laidE w) (w_z : InRow w 2 (z.flatMap prC) blk_z base_z z.length es_z) (g_z : (H0 ).get blk_z = none) : CwR 3 #[.agg #[St' pn, St' pv], .slice (some ⟨blk_z, base_z, none⟩) z.length es_z, .int .u8 be, .int .u8 bh] w (.bool true) := by
  have ho : ∀ k r, (k, r) ∈ hy8 → HOk (cx (nuX (nu8 pn pv blk_z base_z es_z z be bh) (rX (ro8 pn pv blk_z base_z es_z z be bh) (fun _ => .bool true))) (nuX_one (on8 pn pv blk_z base_z es_z z be bh)) 0 laidE laidE_stab) k r := by
    unfold hy8
    exact hc (kRn (denX rfl)) <|
     hc (hokIsA (a := pn) (v := pv) (isAg2 (isX rfl) (isX rfl)) (denBF (by assumption)) (by omega) (by omega)) <|
     hnil
  obtain ⟨fi, hfi, hb⟩ := fiE
  exact runPR (tb := (tbl hy8)) ((tabkOk (nuX (nu8 pn pv blk_z base_z es_z z be bh) (rX (ro8 pn pv blk_z base_z es_z z be bh) (fun _ => .bool true))) (nuX_one (on8 pn pv blk_z base_z es_z z be bh))).hyps ho) rfl hfi hb [.r 2000000 23 2 true] [⟨blk_z, base_z, z.length, es_z⟩] (run8 ) (args := [.agg #[St' pn, St' pv], .slice (some ⟨blk_z, base_z, none⟩) z.length es_z, .int .u8 be, .int .u8 bh]) ⟨_, _, rfl, ⟨_, rfl, ⟨_, _, rfl, rfl, ⟨_, _, rfl, rfl, rfl⟩⟩⟩, ⟨_, _, rfl, relSrN (by decide) rfl w_z.room, ⟨_, _, rfl, rfl, ⟨_, _, rfl, rfl, rfl⟩⟩⟩⟩ w hl rfl (by decide) ((argsCons (w_z.arg (g_z ) rfl) argsNil)) rfl
end Go.Proofs.YtjkdkpdjmapieaaDoor.fieldBack
