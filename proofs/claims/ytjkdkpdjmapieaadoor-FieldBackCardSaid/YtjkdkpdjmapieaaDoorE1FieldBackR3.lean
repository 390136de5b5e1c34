/- A part of the proof: an interpreter of the model's own code on partly known states, and that what it answers is what the program answers. No condition of its own. -/
import Derived.Test.YtjkdkpdjmapieaaDoorE1FieldBackO5
set_option maxRecDepth 100000
set_option linter.unusedVariables false
set_option linter.unusedSimpArgs false
set_option maxHeartbeats 4000000
namespace Go.Proofs.YtjkdkpdjmapieaaDoor.fieldBack
open Go Go.AX Go.Proofs Go.Proofs.YtjkdkpdjmapieaaDoor
def hy9 : LK := [(.rn, .x 2000001),
  (.call 6 [.ag [.x 0, .x 1]], .b true),
  (.rl (.x 2000000) 2, .x 4),
  (.bin .gtr (.x 4) (.i .i64 (.ofNat 20)), .b true)]
theorem run9 : Go.AX.okB (call (tbl hy9) 9000 3 [.ag [.x 0, .x 1], .sr 4, .x 2, .x 3] ⟨addR 4 [.r 2000000 23 2 true] (H0 ), 4 + List.length (α := Ent) [.r 2000000 23 2 true], 0, 0⟩) = true := by kernel_rfl
def nu9 (pn : LB) (pv : LB) (blk_z : Nat) (base_z : Nat) (es_z : Nat) (z : List (LB × LB)) (be : Int) (bh : Int) : List Value := [St' pn,
  St' pv,
  .int .u8 (be),
  .int .u8 (bh),
  .int .i64 ((z.length : Int))]
def ro9 (pn : LB) (pv : LB) (blk_z : Nat) (base_z : Nat) (es_z : Nat) (z : List (LB × LB)) (be : Int) (bh : Int) : List Value := [rwG prC z,
  rwS ([] : List LB)]
theorem on9 (pn : LB) (pv : LB) (blk_z : Nat) (base_z : Nat) (es_z : Nat) (z : List (LB × LB)) (be : Int) (bh : Int) : ∀ j, (nuL (nu9 pn pv blk_z base_z es_z z be bh) j).oneCell' = true := nuL_one (l := nu9 pn pv blk_z base_z es_z z be bh) rfl
theorem path9 (pn : LB) (pv : LB) (blk_z : Nat) (base_z : Nat) (es_z : Nat) (z : List (LB × LB)) (be : Int) (bh : Int) (b0 : pn.length ≤ 140737488351232) (b1 : pv.length ≤ 140737488351232) (b2 : ∀ n, n ∈ z → prB n) (b3 : ∀ q, q ∈ z → q.1.length ≤ 140737488351232) (b4 : ∀ q, q ∈ z → q.2.length ≤ 140737488351232) (b5 : z.length ≤ 9223372036854775807) (b6 : 0 ≤ be) (b7 : be ≤ 255) (b8 : 0 ≤ bh) (b9 : bh ≤ 255) (h0 : isF pn pv = true) (h1 : 20 < (z.length : Int)) (w : World) (hl : laidE w) (w_z : InRow w 2 (z.flatMap prC) blk_z base_z z.length es_z) (g_z : (H0 ).get blk_z = none) : CwR 3 #[.agg #[St' pn, St' pv], .slice (some ⟨blk_z, base_z, none⟩) z.length es_z, .int .u8 be, .int .u8 bh] w (.bool true) := by
  obtain ⟨htk, hvs, hln, hlv, htr⟩ := isF_inv (a := pn) (v := pv) (by assumption)
  have hpl := tok_pos htk
  have ho : ∀ k r, (k, r) ∈ hy9 → HOk (cx (nuX (nu9 pn pv blk_z base_z es_z z be bh) (rX (ro9 pn pv blk_z base_z es_z z be bh) (fun _ => .bool true))) (nuX_one (on9 pn pv blk_z base_z es_z z be bh)) 0 laidE laidE_stab) k r := by
    unfold hy9
    exact hc (kRn (denX rfl)) <|
     hc (hokIsA (a := pn) (v := pv) (isAg2 (isX rfl) (isX rfl)) (denBT (by assumption)) (by omega) (by omega)) <|
     hc (kRlG prC_len (isX rfl) (denX rfl) (by first | omega | (simp <;> omega))) <|
     hc (gtcT rfl (by omega)) <|
     hnil
  obtain ⟨fi, hfi, hb⟩ := fiE
  exact runPR (tb := (tbl hy9)) ((tabkOk (nuX (nu9 pn pv blk_z base_z es_z z be bh) (rX (ro9 pn pv blk_z base_z es_z z be bh) (fun _ => .bool true))) (nuX_one (on9 pn pv blk_z base_z es_z z be bh))).hyps ho) rfl hfi hb [.r 2000000 23 2 true] [⟨blk_z, base_z, z.length, es_z⟩] (run9 ) (args := [.agg #[St' pn, St' pv], .slice (some ⟨blk_z, base_z, none⟩) z.length es_z, .int .u8 be, .int .u8 bh]) ⟨_, _, rfl, ⟨_, rfl, ⟨_, _, rfl, rfl, ⟨_, _, rfl, rfl, rfl⟩⟩⟩, ⟨_, _, rfl, relSrN (by decide) rfl w_z.room, ⟨_, _, rfl, rfl, ⟨_, _, rfl, rfl, rfl⟩⟩⟩⟩ w hl rfl (by decide) ((argsCons (w_z.arg (g_z ) rfl) argsNil)) rfl
end Go.Proofs.YtjkdkpdjmapieaaDoor.fieldBack
