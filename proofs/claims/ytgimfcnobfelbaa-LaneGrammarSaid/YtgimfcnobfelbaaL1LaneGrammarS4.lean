/- A part of the proof: an interpreter of the model's own code on partly known states, and that what it answers is what the program answers. No condition of its own. -/
import Derived.Test.YtgimfcnobfelbaaL1LaneGrammarQ
set_option maxRecDepth 100000
set_option linter.unusedVariables false
set_option linter.unusedSimpArgs false
set_option maxHeartbeats 4000000
namespace Go.Proofs.Ytgimfcnobfelbaa.laneGrammar
open Go Go.AX Go.Proofs Go.Proofs.Ytgimfcnobfelbaa
def hy12 : LK := [(.len (.x 0), .x 1),
  (.bin .gtr (.x 1) (.i .i64 (.ofNat 2000)), .b false),
  (.rl (.x 2000000) 5, .x 2),
  (.bin .gtr (.x 2) (.i .i64 (.ofNat 60)), .b false),
  (.bin .gtr (.x 1) (.i .i64 (.ofNat 512)), .b false),
  (.bin .neq (.x 0) (.s 0 0), .b false),
  (.bin .gtr (.x 1) (.i .i64 (.ofNat 0)), .b false)]
def lhg1 : LH := ⟨1, 150, 210, [(1, .r 2000000 34 5 true), (25, .b ⟨51, .l [.i .i64 (.ofNat 1), .sl 24 0 4 0 true, .b false, .b false, .b false, .b false, .b false, .i .u32 (.ofNat 0), .i .i64 (.ofNat 0)], 0, 0, 0, false, false⟩), (24, .b ⟨32, .l [.i .i64 (.ofNat 1), .i .i64 (.ofNat 1), .s 8 65792, .i .i64 (.ofNat 0), .i .i64 (.ofNat 4), .i .i64 (.ofNat 1), .s 4 1986920705, .i .i64 (.ofNat 4), .i .i64 (.ofNat 4), .i .i64 (.ofNat 1), .s 0 0, .i .i64 (.ofNat 0), .i .i64 (.ofNat 5), .i .i64 (.ofNat 1), .s 0 0, .i .i64 (.ofNat 0)], 16, 4, 0, false, true⟩), (39, .b ⟨32, .l [.i .i64 (.ofNat 1), .i .i64 (.ofNat 1), .s 8 65792, .i .i64 (.ofNat 0), .i .i64 (.ofNat 4), .i .i64 (.ofNat 1), .s 4 1986920705, .i .i64 (.ofNat 4), .i .i64 (.ofNat 4), .i .i64 (.ofNat 1), .s 0 0, .i .i64 (.ofNat 0), .i .i64 (.ofNat 5), .i .i64 (.ofNat 1), .s 0 0, .i .i64 (.ofNat 0)], 16, 4, 0, false, true⟩)], []⟩
def lfg1 : LF := ⟨9, 96, [(1, .sr 1), (5, .p 25 0), (9, .i .i64 (.ofNat 0)), (6, .sl 39 0 4 0 true), (7, .i .i64 (.ofNat 0)), (8, .b false)], [], .exit 0, [], some lhg1⟩
noncomputable def tab12 : Tab := addLps ({ tabk with hyp := hy12 }) 3 fi3 [lfg1]
theorem run12 : Go.AX.okB (call tab12 9000 3 [.x 0, .sr 1] ⟨addR 1 [.r 2000000 34 5 true] (H0 ), 1 + List.length (α := Ent) [.r 2000000 34 5 true], 0, 0⟩) = true := by kernel_rfl
def nu12 (body : LB) (blk_z : Nat) (base_z : Nat) (es_z : Nat) (z : List (Int × Int × Int × LB × Int)) : List Value := [St' body,
  .int .i64 ((body.length : Int)),
  .int .i64 ((z.length : Int))]
def ro12 (body : LB) (blk_z : Nat) (base_z : Nat) (es_z : Nat) (z : List (Int × Int × Int × LB × Int)) : List Value := [rwG stC z]
theorem on12 (body : LB) (blk_z : Nat) (base_z : Nat) (es_z : Nat) (z : List (Int × Int × Int × LB × Int)) : ∀ j, (nuL (nu12 body blk_z base_z es_z z) j).oneCell' = true := nuL_one (l := nu12 body blk_z base_z es_z z) rfl
theorem path12 (body : LB) (blk_z : Nat) (base_z : Nat) (es_z : Nat) (z : List (Int × Int × Int × LB × Int)) (b0 : body.length ≤ 9223372036854775807) (b1 : ∀ n, n ∈ z → stB n) (b2 : z.length ≤ 9223372036854775807) (h0 : ¬ (2000 < (body.length : Int))) (h1 : ¬ (60 < (z.length : Int))) (h2 : ¬ (512 < (body.length : Int))) (h3 : (body.length : Int) = 0) (w : World) (hl : laidE w) (w_z : InRow w 5 (z.flatMap stC) blk_z base_z z.length es_z) (g_z : (H0 ).get blk_z = none) : CwR 3 #[St' body, .slice (some ⟨blk_z, base_z, none⟩) z.length es_z] w (.bool true) := by
  have ho : ∀ k r, (k, r) ∈ hy12 → HOk (cx (nuX (nu12 body blk_z base_z es_z z) (rX (ro12 body blk_z base_z es_z z) (fun _ => .bool true))) (nuX_one (on12 body blk_z base_z es_z z)) 0 laidE laidE_stab) k r := by
    unfold hy12
    exact hc (lnV rfl rfl (by omega)) <|
     hc (gtcF rfl (by omega)) <|
     hc (kRlG stC_len (isX rfl) (denX rfl) (by first | omega | (simp <;> omega))) <|
     hc (gtcF rfl (by omega)) <|
     hc (gtcF rfl (by omega)) <|
     hc (kNeS (isX rfl) (isSx (l := ([] : LB)) 0 0 rfl) (bnF (nilT (by omega)))) <|
     hc (gtcF rfl (by omega)) <|
     hnil
  exact runPR (tb := tab12) (AllOk.lp1 ((tabkOk (nuX (nu12 body blk_z base_z es_z z) (rX (ro12 body blk_z base_z es_z z) (fun _ => .bool true))) (nuX_one (on12 body blk_z base_z es_z z))).hyps ho) (by omega) fi3_at fi3_body (lfCons (lpKnown rfl ⟨0, keyL, lfOkL (l := lfg1) (h := lhg1) z ([] : LB) ([] : LB) ([] : LB) ([] : LB) (0 : Int) (by omega) (by assumption) 0 (by decide) rfl (by kernel_rfl) (th0 := [(0, .i .i64 (.ofNat 0)), (2000000, .x 2000000)]) (sg0 := [(150, 25), (152, 39), (151, 24)]) (fun X => thCons (isTo (isI .i64 (.ofNat 0)) ds00) (thXv (v := rwG stC z) rfl ds2000000 thNil)) (by kernel_rfl) (by kernel_rfl)⟩) lfNil)) rfl (get_lps (by omega)) fiB3 [.r 2000000 34 5 true] [⟨blk_z, base_z, z.length, es_z⟩] (run12 ) (args := [St' body, .slice (some ⟨blk_z, base_z, none⟩) z.length es_z]) ⟨_, _, rfl, rfl, ⟨_, _, rfl, relSr w_z.room, rfl⟩⟩ w hl rfl (by decide) (args1 (w_z.arg (g_z ) rfl)) nodup1
def hy13 : LK := [(.len (.x 0), .x 1),
  (.bin .gtr (.x 1) (.i .i64 (.ofNat 2000)), .b false),
  (.rl (.x 2000000) 5, .x 2),
  (.bin .gtr (.x 2) (.i .i64 (.ofNat 60)), .b false),
  (.bin .gtr (.x 1) (.i .i64 (.ofNat 512)), .b false),
  (.bin .neq (.x 0) (.s 0 0), .b true),
  (.mm true (.x 1) (.i .i64 (.ofNat 0)), .x 3),
  (.un .neg (.x 3), .x 4),
  (.bin .and (.x 4) (.i .i64 (.ofNat 7)), .x 5),
  (.bin .gtr (.x 1) (.i .i64 (.ofNat 0)), .b true),
  (.mm false (.i .i64 (.ofNat 512)) (.x 1), .x 6),
  (.sub (.x 0) none (some (.x 6)), .x 0),
  (.mm true (.i .i64 (.ofNat 0)) (.x 6), .x 7),
  (.bin .rem (.x 7) (.i .i64 (.ofNat 8)), .x 8),
  (.bin .sub (.i .i64 (.ofNat 8)) (.x 8), .x 9),
  (.bin .rem (.x 9) (.i .i64 (.ofNat 8)), .x 5),
  (.sub (.x 0) (some (.x 6)) none, .x 10),
  (.len (.x 10), .i .i64 (.ofNat 0))]
def lhg2 : LH := ⟨1, 150, 210, [(1, .r 2000000 34 5 true), (28, .b ⟨51, .l [.i .i64 (.ofNat 1), .sl 27 0 5 0 true, .b false, .b false, .b false, .b false, .b false, .i .u32 (.ofNat 0), .i .i64 (.ofNat 0)], 0, 0, 0, false, false⟩), (27, .b ⟨32, .l [.i .i64 (.ofNat 1), .i .i64 (.ofNat 1), .s 8 65792, .i .i64 (.ofNat 0), .i .i64 (.ofNat 4), .i .i64 (.ofNat 1), .s 4 1986920705, .i .i64 (.ofNat 4), .i .i64 (.ofNat 4), .i .i64 (.ofNat 1), .s 0 0, .i .i64 (.ofNat 0), .i .i64 (.ofNat 5), .i .i64 (.ofNat 1), .x 0, .x 5, .i .i64 (.ofNat 5), .i .i64 (.ofNat 1), .s 0 0, .i .i64 (.ofNat 0)], 20, 4, 0, false, true⟩), (44, .b ⟨32, .l [.i .i64 (.ofNat 1), .i .i64 (.ofNat 1), .s 8 65792, .i .i64 (.ofNat 0), .i .i64 (.ofNat 4), .i .i64 (.ofNat 1), .s 4 1986920705, .i .i64 (.ofNat 4), .i .i64 (.ofNat 4), .i .i64 (.ofNat 1), .s 0 0, .i .i64 (.ofNat 0), .i .i64 (.ofNat 5), .i .i64 (.ofNat 1), .x 0, .x 5, .i .i64 (.ofNat 5), .i .i64 (.ofNat 1), .s 0 0, .i .i64 (.ofNat 0)], 20, 4, 0, false, true⟩)], []⟩
def lfg2 : LF := ⟨9, 96, [(1, .sr 1), (5, .p 28 0), (9, .i .i64 (.ofNat 0)), (6, .sl 44 0 5 0 true), (7, .i .i64 (.ofNat 0)), (8, .b false)], [], .exit 0, [], some lhg2⟩
noncomputable def tab13 : Tab := addLps ({ tabk with hyp := hy13 }) 3 fi3 [lfg2]
theorem run13 : Go.AX.okB (call tab13 9000 3 [.x 0, .sr 1] ⟨addR 1 [.r 2000000 34 5 true] (H0 ), 1 + List.length (α := Ent) [.r 2000000 34 5 true], 0, 0⟩) = true := by kernel_rfl
def nu13 (body : LB) (blk_z : Nat) (base_z : Nat) (es_z : Nat) (z : List (Int × Int × Int × LB × Int)) : List Value := [St' body,
  .int .i64 ((body.length : Int)),
  .int .i64 ((z.length : Int)),
  .int .i64 ((body.length : Int)),
  .int .i64 (-((body.length : Int))),
  .int .i64 ((-((body.length : Int))) % 8),
  .int .i64 ((body.length : Int)),
  .int .i64 ((body.length : Int)),
  .int .i64 ((body.length : Int) % 8),
  .int .i64 (8 - ((body.length : Int) % 8)),
  St' ([] : LB)]
def ro13 (body : LB) (blk_z : Nat) (base_z : Nat) (es_z : Nat) (z : List (Int × Int × Int × LB × Int)) : List Value := [rwG stC z]
theorem on13 (body : LB) (blk_z : Nat) (base_z : Nat) (es_z : Nat) (z : List (Int × Int × Int × LB × Int)) : ∀ j, (nuL (nu13 body blk_z base_z es_z z) j).oneCell' = true := nuL_one (l := nu13 body blk_z base_z es_z z) rfl
theorem path13 (body : LB) (blk_z : Nat) (base_z : Nat) (es_z : Nat) (z : List (Int × Int × Int × LB × Int)) (b0 : body.length ≤ 9223372036854775807) (b1 : ∀ n, n ∈ z → stB n) (b2 : z.length ≤ 9223372036854775807) (h0 : ¬ (2000 < (body.length : Int))) (h1 : ¬ (60 < (z.length : Int))) (h2 : ¬ (512 < (body.length : Int))) (h3 : ¬ ((body.length : Int) = 0)) (w : World) (hl : laidE w) (w_z : InRow w 5 (z.flatMap stC) blk_z base_z z.length es_z) (g_z : (H0 ).get blk_z = none) : CwR 3 #[St' body, .slice (some ⟨blk_z, base_z, none⟩) z.length es_z] w (.bool true) := by
  have ho : ∀ k r, (k, r) ∈ hy13 → HOk (cx (nuX (nu13 body blk_z base_z es_z z) (rX (ro13 body blk_z base_z es_z z) (fun _ => .bool true))) (nuX_one (on13 body blk_z base_z es_z z)) 0 laidE laidE_stab) k r := by
    unfold hy13
    exact hc (lnV rfl rfl (by omega)) <|
     hc (gtcF rfl (by omega)) <|
     hc (kRlG stC_len (isX rfl) (denX rfl) (by first | omega | (simp <;> omega))) <|
     hc (gtcF rfl (by omega)) <|
     hc (gtcF rfl (by omega)) <|
     hc (kNeS (isX rfl) (isSx (l := ([] : LB)) 0 0 rfl) (bnT (nilF (by omega)))) <|
     hc (kMax (isX rfl) (isZ (m := 0) rfl) (denX rfl) (by omega)) <|
     hc (kNeg (isX rfl) (denX rfl) (by omega) (fI64 (by omega) (by omega))) <|
     hc (kAndG 3 8 rfl (by decide) (isX rfl) (isZ (m := 7) rfl) (denX rfl) (fI64 (by omega) (by omega)) rfl rfl (fI64 (by omega) (by omega))) <|
     hc (gtcT rfl (by omega)) <|
     hc (kMin (isZ (m := 512) rfl) (isX rfl) (denX rfl) (by omega)) <|
     hc (kCut (isX rfl) (.inl ⟨rfl, rfl⟩) (.inr ⟨_, _, rfl, (isX rfl)⟩) (p := []) (m := body) (q := []) (by simp) rfl (by simp <;> omega) (denX rfl)) <|
     hc (kMax (isZ (m := 0) rfl) (isX rfl) (denX rfl) (by omega)) <|
     hc (kRem (isX rfl) (isZ (m := 8) rfl) (denX rfl) (by omega) (by omega) rfl) <|
     hc (kSub (isZ (m := 8) rfl) (isX rfl) (denX rfl) (by omega) (fI64 (by omega) (by omega))) <|
     hc (kRem (isX rfl) (isZ (m := 8) rfl) (denX rfl) (by omega) (by omega) (by omega)) <|
     hc (kCut (isX rfl) (.inr ⟨_, _, rfl, (isX rfl)⟩) (.inl ⟨rfl, rfl⟩) (p := body) (m := []) (q := []) (by simp) (by first | rfl | omega) (by simp) (denX rfl)) <|
     hc (kLenE (isX rfl) (denZ (m := 0) rfl) rfl) <|
     hnil
  exact runPR (tb := tab13) (AllOk.lp1 ((tabkOk (nuX (nu13 body blk_z base_z es_z z) (rX (ro13 body blk_z base_z es_z z) (fun _ => .bool true))) (nuX_one (on13 body blk_z base_z es_z z))).hyps ho) (by omega) fi3_at fi3_body (lfCons (lpKnown rfl ⟨0, keyL, lfOkL (l := lfg2) (h := lhg2) z ([] : LB) ([] : LB) ([] : LB) body ((-((body.length : Int))) % 8) (by omega) (by assumption) 1 (by decide) rfl (by kernel_rfl) (th0 := [(0, .i .i64 (.ofNat 0)), (4, .x 0), (5, .x 5), (2000000, .x 2000000)]) (sg0 := [(150, 28), (152, 44), (151, 27)]) (fun X => thCons (isTo (isI .i64 (.ofNat 0)) ds00) (thXv (v := St' body) rfl ds4 (thXv (v := .int .i64 ((-((body.length : Int))) % 8)) rfl ds5 (thXv (v := rwG stC z) rfl ds2000000 thNil)))) (by kernel_rfl) (by kernel_rfl)⟩) lfNil)) rfl (get_lps (by omega)) fiB3 [.r 2000000 34 5 true] [⟨blk_z, base_z, z.length, es_z⟩] (run13 ) (args := [St' body, .slice (some ⟨blk_z, base_z, none⟩) z.length es_z]) ⟨_, _, rfl, rfl, ⟨_, _, rfl, relSr w_z.room, rfl⟩⟩ w hl rfl (by decide) (args1 (w_z.arg (g_z ) rfl)) nodup1
def hy14 : LK := [(.len (.x 0), .x 1),
  (.bin .gtr (.x 1) (.i .i64 (.ofNat 2000)), .b false),
  (.rl (.x 2000000) 5, .x 2),
  (.bin .gtr (.x 2) (.i .i64 (.ofNat 60)), .b false),
  (.bin .gtr (.x 1) (.i .i64 (.ofNat 512)), .b true),
  (.sub (.x 0) none (some (.i .i64 (.ofNat 512))), .x 3),
  (.len (.x 3), .i .i64 (.ofNat 512)),
  (.sub (.x 0) (some (.i .i64 (.ofNat 512))) none, .x 4),
  (.len (.x 4), .x 5),
  (.bin .gtr (.x 5) (.i .i64 (.ofNat 512)), .b false),
  (.bin .neq (.x 4) (.s 0 0), .b true),
  (.mm true (.x 5) (.i .i64 (.ofNat 0)), .x 6),
  (.un .neg (.x 6), .x 7),
  (.bin .and (.x 7) (.i .i64 (.ofNat 7)), .x 8),
  (.bin .gtr (.x 1) (.i .i64 (.ofNat 0)), .b true),
  (.mm false (.i .i64 (.ofNat 512)) (.x 1), .i .i64 (.ofNat 512)),
  (.bin .gtr (.x 5) (.i .i64 (.ofNat 0)), .b true),
  (.mm false (.i .i64 (.ofNat 512)) (.x 5), .x 9),
  (.sub (.x 4) none (some (.x 9)), .x 4),
  (.mm true (.i .i64 (.ofNat 0)) (.x 9), .x 10),
  (.bin .rem (.x 10) (.i .i64 (.ofNat 8)), .x 11),
  (.bin .sub (.i .i64 (.ofNat 8)) (.x 11), .x 12),
  (.bin .rem (.x 12) (.i .i64 (.ofNat 8)), .x 8),
  (.sub (.x 4) (some (.x 9)) none, .x 13),
  (.len (.x 13), .i .i64 (.ofNat 0))]
def lhg3 : LH := ⟨1, 150, 210, [(1, .r 2000000 34 5 true), (31, .b ⟨51, .l [.i .i64 (.ofNat 1), .sl 30 0 6 0 true, .b false, .b false, .b false, .b false, .b false, .i .u32 (.ofNat 0), .i .i64 (.ofNat 0)], 0, 0, 0, false, false⟩), (30, .b ⟨32, .l [.i .i64 (.ofNat 1), .i .i64 (.ofNat 1), .s 8 65792, .i .i64 (.ofNat 0), .i .i64 (.ofNat 4), .i .i64 (.ofNat 1), .s 4 1986920705, .i .i64 (.ofNat 4), .i .i64 (.ofNat 4), .i .i64 (.ofNat 1), .s 0 0, .i .i64 (.ofNat 0), .i .i64 (.ofNat 5), .i .i64 (.ofNat 1), .x 3, .i .i64 (.ofNat 0), .i .i64 (.ofNat 5), .i .i64 (.ofNat 1), .x 4, .x 8, .i .i64 (.ofNat 5), .i .i64 (.ofNat 1), .s 0 0, .i .i64 (.ofNat 0)], 24, 4, 0, false, true⟩), (49, .b ⟨32, .l [.i .i64 (.ofNat 1), .i .i64 (.ofNat 1), .s 8 65792, .i .i64 (.ofNat 0), .i .i64 (.ofNat 4), .i .i64 (.ofNat 1), .s 4 1986920705, .i .i64 (.ofNat 4), .i .i64 (.ofNat 4), .i .i64 (.ofNat 1), .s 0 0, .i .i64 (.ofNat 0), .i .i64 (.ofNat 5), .i .i64 (.ofNat 1), .x 3, .i .i64 (.ofNat 0), .i .i64 (.ofNat 5), .i .i64 (.ofNat 1), .x 4, .x 8, .i .i64 (.ofNat 5), .i .i64 (.ofNat 1), .s 0 0, .i .i64 (.ofNat 0)], 24, 4, 0, false, true⟩)], []⟩
def lfg3 : LF := ⟨9, 96, [(1, .sr 1), (5, .p 31 0), (9, .i .i64 (.ofNat 0)), (6, .sl 49 0 6 0 true), (7, .i .i64 (.ofNat 0)), (8, .b false)], [], .exit 0, [], some lhg3⟩
noncomputable def tab14 : Tab := addLps ({ tabk with hyp := hy14 }) 3 fi3 [lfg3]
theorem run14 : Go.AX.okB (call tab14 9000 3 [.x 0, .sr 1] ⟨addR 1 [.r 2000000 34 5 true] (H0 ), 1 + List.length (α := Ent) [.r 2000000 34 5 true], 0, 0⟩) = true := by kernel_rfl
def nu14 (body : LB) (blk_z : Nat) (base_z : Nat) (es_z : Nat) (z : List (Int × Int × Int × LB × Int)) : List Value := [St' body,
  .int .i64 ((body.length : Int)),
  .int .i64 ((z.length : Int)),
  St' (List.take (Int.toNat (512 - (0))) (List.drop (Int.toNat (0)) body)),
  St' (List.take (Int.toNat ((body.length : Int) - (512))) (List.drop (Int.toNat (512)) body)),
  .int .i64 ((body.length : Int) - 512),
  .int .i64 ((body.length : Int) - 512),
  .int .i64 (512 - (body.length : Int)),
  .int .i64 ((512 - (body.length : Int)) % 8),
  .int .i64 ((body.length : Int) - 512),
  .int .i64 ((body.length : Int) - 512),
  .int .i64 (((body.length : Int) - 512) % 8),
  .int .i64 (8 - (((body.length : Int) - 512) % 8)),
  St' ([] : LB)]
def ro14 (body : LB) (blk_z : Nat) (base_z : Nat) (es_z : Nat) (z : List (Int × Int × Int × LB × Int)) : List Value := [rwG stC z]
theorem on14 (body : LB) (blk_z : Nat) (base_z : Nat) (es_z : Nat) (z : List (Int × Int × Int × LB × Int)) : ∀ j, (nuL (nu14 body blk_z base_z es_z z) j).oneCell' = true := nuL_one (l := nu14 body blk_z base_z es_z z) rfl
theorem path14 (body : LB) (blk_z : Nat) (base_z : Nat) (es_z : Nat) (z : List (Int × Int × Int × LB × Int)) (b0 : body.length ≤ 9223372036854775807) (b1 : ∀ n, n ∈ z → stB n) (b2 : z.length ≤ 9223372036854775807) (h0 : ¬ (2000 < (body.length : Int))) (h1 : ¬ (60 < (z.length : Int))) (h2 : 512 < (body.length : Int)) (h3 : ¬ (512 < (body.length : Int) - 512)) (w : World) (hl : laidE w) (w_z : InRow w 5 (z.flatMap stC) blk_z base_z z.length es_z) (g_z : (H0 ).get blk_z = none) : CwR 3 #[St' body, .slice (some ⟨blk_z, base_z, none⟩) z.length es_z] w (.bool true) := by
  have := lenMd (l := body) (P := 0) (Q := 512) (by omega)
  have := lenMd (l := body) (P := 512) (Q := (body.length : Int)) (by omega)
  have ho : ∀ k r, (k, r) ∈ hy14 → HOk (cx (nuX (nu14 body blk_z base_z es_z z) (rX (ro14 body blk_z base_z es_z z) (fun _ => .bool true))) (nuX_one (on14 body blk_z base_z es_z z)) 0 laidE laidE_stab) k r := by
    unfold hy14
    exact hc (lnV rfl rfl (by omega)) <|
     hc (gtcF rfl (by omega)) <|
     hc (kRlG stC_len (isX rfl) (denX rfl) (by first | omega | (simp <;> omega))) <|
     hc (gtcF rfl (by omega)) <|
     hc (gtcT rfl (by omega)) <|
     hc (kMid (P := 0) (Q := 512) (isX rfl) (.inl ⟨rfl, rfl⟩) (.inr ⟨_, _, rfl, (isZ (m := 512) rfl)⟩) (by omega) (by omega) (by omega) (denX rfl)) <|
     hc (kLenE (isX rfl) (denZ (m := 512) rfl) (by omega)) <|
     hc (kMid (P := 512) (Q := (body.length : Int)) (isX rfl) (.inr ⟨_, _, rfl, (isZ (m := 512) rfl)⟩) (.inl ⟨rfl, by first | omega | (simp <;> omega)⟩) (by omega) (by omega) (by omega) (denX rfl)) <|
     hc (lnV rfl rfl (by omega)) <|
     hc (gtcF rfl (by omega)) <|
     hc (kNeS (isX rfl) (isSx (l := ([] : LB)) 0 0 rfl) (bnT (nilF (by omega)))) <|
     hc (kMax (isX rfl) (isZ (m := 0) rfl) (denX rfl) (by omega)) <|
     hc (kNeg (isX rfl) (denX rfl) (by omega) (fI64 (by omega) (by omega))) <|
     hc (kAndG 3 8 rfl (by decide) (isX rfl) (isZ (m := 7) rfl) (denX rfl) (fI64 (by omega) (by omega)) rfl rfl (fI64 (by omega) (by omega))) <|
     hc (gtcT rfl (by omega)) <|
     hc (kMin (isZ (m := 512) rfl) (isX rfl) (denZ (m := 512) rfl) (by omega)) <|
     hc (gtcT rfl (by omega)) <|
     hc (kMin (isZ (m := 512) rfl) (isX rfl) (denX rfl) (by omega)) <|
     hc (kCut (isX rfl) (.inl ⟨rfl, rfl⟩) (.inr ⟨_, _, rfl, (isX rfl)⟩) (p := []) (m := (List.take (Int.toNat ((body.length : Int) - (512))) (List.drop (Int.toNat (512)) body))) (q := []) (by simp) rfl (by simp <;> omega) (denX rfl)) <|
     hc (kMax (isZ (m := 0) rfl) (isX rfl) (denX rfl) (by omega)) <|
     hc (kRem (isX rfl) (isZ (m := 8) rfl) (denX rfl) (by omega) (by omega) rfl) <|
     hc (kSub (isZ (m := 8) rfl) (isX rfl) (denX rfl) (by omega) (fI64 (by omega) (by omega))) <|
     hc (kRem (isX rfl) (isZ (m := 8) rfl) (denX rfl) (by omega) (by omega) (by omega)) <|
     hc (kCut (isX rfl) (.inr ⟨_, _, rfl, (isX rfl)⟩) (.inl ⟨rfl, rfl⟩) (p := (List.take (Int.toNat ((body.length : Int) - (512))) (List.drop (Int.toNat (512)) body))) (m := []) (q := []) (by simp) (by first | rfl | omega) (by simp) (denX rfl)) <|
     hc (kLenE (isX rfl) (denZ (m := 0) rfl) rfl) <|
     hnil
  exact runPR (tb := tab14) (AllOk.lp1 ((tabkOk (nuX (nu14 body blk_z base_z es_z z) (rX (ro14 body blk_z base_z es_z z) (fun _ => .bool true))) (nuX_one (on14 body blk_z base_z es_z z))).hyps ho) (by omega) fi3_at fi3_body (lfCons (lpKnown rfl ⟨0, keyL, lfOkL (l := lfg3) (h := lhg3) z (List.take (Int.toNat (512 - (0))) (List.drop (Int.toNat (0)) body)) ([] : LB) ([] : LB) (List.take (Int.toNat ((body.length : Int) - (512))) (List.drop (Int.toNat (512)) body)) ((512 - (body.length : Int)) % 8) (by omega) (by assumption) 2 (by decide) rfl (by kernel_rfl) (th0 := [(0, .i .i64 (.ofNat 0)), (1, .x 3), (4, .x 4), (5, .x 8), (2000000, .x 2000000)]) (sg0 := [(150, 31), (152, 49), (151, 30)]) (fun X => thCons (isTo (isI .i64 (.ofNat 0)) ds00) (thXv (v := St' (List.take (Int.toNat (512 - (0))) (List.drop (Int.toNat (0)) body))) rfl ds1 (thXv (v := St' (List.take (Int.toNat ((body.length : Int) - (512))) (List.drop (Int.toNat (512)) body))) rfl ds4 (thXv (v := .int .i64 ((512 - (body.length : Int)) % 8)) rfl ds5 (thXv (v := rwG stC z) rfl ds2000000 thNil))))) (by kernel_rfl) (by kernel_rfl)⟩) lfNil)) rfl (get_lps (by omega)) fiB3 [.r 2000000 34 5 true] [⟨blk_z, base_z, z.length, es_z⟩] (run14 ) (args := [St' body, .slice (some ⟨blk_z, base_z, none⟩) z.length es_z]) ⟨_, _, rfl, rfl, ⟨_, _, rfl, relSr w_z.room, rfl⟩⟩ w hl rfl (by decide) (args1 (w_z.arg (g_z ) rfl)) nodup1
end Go.Proofs.Ytgimfcnobfelbaa.laneGrammar
