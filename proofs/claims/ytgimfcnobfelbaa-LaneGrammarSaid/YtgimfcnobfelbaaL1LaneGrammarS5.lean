/- A part of the proof: an interpreter of the model's own code on partly known states, and that what it answers is what the program answers. No condition of its own. -/
import Derived.Test.YtgimfcnobfelbaaL1LaneGrammarQ
set_option maxRecDepth 100000
set_option linter.unusedVariables false
set_option linter.unusedSimpArgs false
set_option maxHeartbeats 4000000
namespace Go.Proofs.Ytgimfcnobfelbaa.laneGrammar
open Go Go.AX Go.Proofs Go.Proofs.Ytgimfcnobfelbaa
def hy15 : LK := [(.len (.x 0), .x 1),
  (.bin .gtr (.x 1) (.i .i64 (.ofNat 2000)), .b false),
  (.rl (.x 2000000) 5, .x 2),
  (.bin .gtr (.x 2) (.i .i64 (.ofNat 60)), .b false),
  (.bin .gtr (.x 1) (.i .i64 (.ofNat 512)), .b true),
  (.sub (.x 0) none (some (.i .i64 (.ofNat 512))), .x 3),
  (.len (.x 3), .i .i64 (.ofNat 512)),
  (.sub (.x 0) (some (.i .i64 (.ofNat 512))) none, .x 4),
  (.len (.x 4), .x 5),
  (.bin .gtr (.x 5) (.i .i64 (.ofNat 512)), .b true),
  (.sub (.x 4) none (some (.i .i64 (.ofNat 512))), .x 6),
  (.len (.x 6), .i .i64 (.ofNat 512)),
  (.sub (.x 4) (some (.i .i64 (.ofNat 512))) none, .x 7),
  (.len (.x 7), .x 8),
  (.bin .gtr (.x 8) (.i .i64 (.ofNat 512)), .b false),
  (.bin .neq (.x 7) (.s 0 0), .b true),
  (.mm true (.x 8) (.i .i64 (.ofNat 0)), .x 9),
  (.un .neg (.x 9), .x 10),
  (.bin .and (.x 10) (.i .i64 (.ofNat 7)), .x 11),
  (.bin .gtr (.x 1) (.i .i64 (.ofNat 0)), .b true),
  (.mm false (.i .i64 (.ofNat 512)) (.x 1), .i .i64 (.ofNat 512)),
  (.bin .gtr (.x 5) (.i .i64 (.ofNat 0)), .b true),
  (.mm false (.i .i64 (.ofNat 512)) (.x 5), .i .i64 (.ofNat 512)),
  (.bin .gtr (.x 8) (.i .i64 (.ofNat 0)), .b true),
  (.mm false (.i .i64 (.ofNat 512)) (.x 8), .x 12),
  (.sub (.x 7) none (some (.x 12)), .x 7),
  (.mm true (.i .i64 (.ofNat 0)) (.x 12), .x 13),
  (.bin .rem (.x 13) (.i .i64 (.ofNat 8)), .x 14),
  (.bin .sub (.i .i64 (.ofNat 8)) (.x 14), .x 15),
  (.bin .rem (.x 15) (.i .i64 (.ofNat 8)), .x 11),
  (.sub (.x 7) (some (.x 12)) none, .x 16),
  (.len (.x 16), .i .i64 (.ofNat 0))]
def lhg4 : LH := ⟨1, 150, 210, [(1, .r 2000000 34 5 true), (34, .b ⟨51, .l [.i .i64 (.ofNat 1), .sl 33 0 7 0 true, .b false, .b false, .b false, .b false, .b false, .i .u32 (.ofNat 0), .i .i64 (.ofNat 0)], 0, 0, 0, false, false⟩), (33, .b ⟨32, .l [.i .i64 (.ofNat 1), .i .i64 (.ofNat 1), .s 8 65792, .i .i64 (.ofNat 0), .i .i64 (.ofNat 4), .i .i64 (.ofNat 1), .s 4 1986920705, .i .i64 (.ofNat 4), .i .i64 (.ofNat 4), .i .i64 (.ofNat 1), .s 0 0, .i .i64 (.ofNat 0), .i .i64 (.ofNat 5), .i .i64 (.ofNat 1), .x 3, .i .i64 (.ofNat 0), .i .i64 (.ofNat 5), .i .i64 (.ofNat 1), .x 6, .i .i64 (.ofNat 0), .i .i64 (.ofNat 5), .i .i64 (.ofNat 1), .x 7, .x 11, .i .i64 (.ofNat 5), .i .i64 (.ofNat 1), .s 0 0, .i .i64 (.ofNat 0)], 28, 4, 0, false, true⟩), (54, .b ⟨32, .l [.i .i64 (.ofNat 1), .i .i64 (.ofNat 1), .s 8 65792, .i .i64 (.ofNat 0), .i .i64 (.ofNat 4), .i .i64 (.ofNat 1), .s 4 1986920705, .i .i64 (.ofNat 4), .i .i64 (.ofNat 4), .i .i64 (.ofNat 1), .s 0 0, .i .i64 (.ofNat 0), .i .i64 (.ofNat 5), .i .i64 (.ofNat 1), .x 3, .i .i64 (.ofNat 0), .i .i64 (.ofNat 5), .i .i64 (.ofNat 1), .x 6, .i .i64 (.ofNat 0), .i .i64 (.ofNat 5), .i .i64 (.ofNat 1), .x 7, .x 11, .i .i64 (.ofNat 5), .i .i64 (.ofNat 1), .s 0 0, .i .i64 (.ofNat 0)], 28, 4, 0, false, true⟩)], []⟩
def lfg4 : LF := ⟨9, 96, [(1, .sr 1), (5, .p 34 0), (9, .i .i64 (.ofNat 0)), (6, .sl 54 0 7 0 true), (7, .i .i64 (.ofNat 0)), (8, .b false)], [], .exit 0, [], some lhg4⟩
noncomputable def tab15 : Tab := addLps ({ tabk with hyp := hy15 }) 3 fi3 [lfg4]
theorem run15 : Go.AX.okB (call tab15 9000 3 [.x 0, .sr 1] ⟨addR 1 [.r 2000000 34 5 true] (H0 ), 1 + List.length (α := Ent) [.r 2000000 34 5 true], 0, 0⟩) = true := by kernel_rfl
def nu15 (body : LB) (blk_z : Nat) (base_z : Nat) (es_z : Nat) (z : List (Int × Int × Int × LB × Int)) : List Value := [St' body,
  .int .i64 ((body.length : Int)),
  .int .i64 ((z.length : Int)),
  St' (List.take (Int.toNat (512 - (0))) (List.drop (Int.toNat (0)) body)),
  St' (List.take (Int.toNat ((body.length : Int) - (512))) (List.drop (Int.toNat (512)) body)),
  .int .i64 ((body.length : Int) - 512),
  St' (List.take (Int.toNat (512 - (0))) (List.drop (Int.toNat (0)) (List.take (Int.toNat ((body.length : Int) - (512))) (List.drop (Int.toNat (512)) body)))),
  St' (List.take (Int.toNat ((body.length : Int) - 512 - (512))) (List.drop (Int.toNat (512)) (List.take (Int.toNat ((body.length : Int) - (512))) (List.drop (Int.toNat (512)) body)))),
  .int .i64 ((body.length : Int) - 1024),
  .int .i64 ((body.length : Int) - 1024),
  .int .i64 (1024 - (body.length : Int)),
  .int .i64 ((1024 - (body.length : Int)) % 8),
  .int .i64 ((body.length : Int) - 1024),
  .int .i64 ((body.length : Int) - 1024),
  .int .i64 (((body.length : Int) - 1024) % 8),
  .int .i64 (8 - (((body.length : Int) - 1024) % 8)),
  St' ([] : LB)]
def ro15 (body : LB) (blk_z : Nat) (base_z : Nat) (es_z : Nat) (z : List (Int × Int × Int × LB × Int)) : List Value := [rwG stC z]
theorem on15 (body : LB) (blk_z : Nat) (base_z : Nat) (es_z : Nat) (z : List (Int × Int × Int × LB × Int)) : ∀ j, (nuL (nu15 body blk_z base_z es_z z) j).oneCell' = true := nuL_one (l := nu15 body blk_z base_z es_z z) rfl
theorem path15 (body : LB) (blk_z : Nat) (base_z : Nat) (es_z : Nat) (z : List (Int × Int × Int × LB × Int)) (b0 : body.length ≤ 9223372036854775807) (b1 : ∀ n, n ∈ z → stB n) (b2 : z.length ≤ 9223372036854775807) (h0 : ¬ (2000 < (body.length : Int))) (h1 : ¬ (60 < (z.length : Int))) (h2 : 512 < (body.length : Int)) (h3 : 512 < (body.length : Int) - 512) (h4 : ¬ (512 < (body.length : Int) - 1024)) (w : World) (hl : laidE w) (w_z : InRow w 5 (z.flatMap stC) blk_z base_z z.length es_z) (g_z : (H0 ).get blk_z = none) : CwR 3 #[St' body, .slice (some ⟨blk_z, base_z, none⟩) z.length es_z] w (.bool true) := by
  have := lenMd (l := body) (P := 0) (Q := 512) (by omega)
  have := lenMd (l := body) (P := 512) (Q := (body.length : Int)) (by omega)
  have := lenMd (l := (List.take (Int.toNat ((body.length : Int) - (512))) (List.drop (Int.toNat (512)) body))) (P := 0) (Q := 512) (by omega)
  have := lenMd (l := (List.take (Int.toNat ((body.length : Int) - (512))) (List.drop (Int.toNat (512)) body))) (P := 512) (Q := (body.length : Int) - 512) (by omega)
  have ho : ∀ k r, (k, r) ∈ hy15 → HOk (cx (nuX (nu15 body blk_z base_z es_z z) (rX (ro15 body blk_z base_z es_z z) (fun _ => .bool true))) (nuX_one (on15 body blk_z base_z es_z z)) 0 laidE laidE_stab) k r := by
    unfold hy15
    exact hc (lnV rfl rfl (by omega)) <|
     hc (gtcF rfl (by omega)) <|
     hc (kRlG stC_len (isX rfl) (denX rfl) (by first | omega | (simp <;> omega))) <|
     hc (gtcF rfl (by omega)) <|
     hc (gtcT rfl (by omega)) <|
     hc (kMid (P := 0) (Q := 512) (isX rfl) (.inl ⟨rfl, rfl⟩) (.inr ⟨_, _, rfl, (isZ (m := 512) rfl)⟩) (by omega) (by omega) (by omega) (denX rfl)) <|
     hc (kLenE (isX rfl) (denZ (m := 512) rfl) (by omega)) <|
     hc (kMid (P := 512) (Q := (body.length : Int)) (isX rfl) (.inr ⟨_, _, rfl, (isZ (m := 512) rfl)⟩) (.inl ⟨rfl, by first | omega | (simp <;> omega)⟩) (by omega) (by omega) (by omega) (denX rfl)) <|
     hc (lnV rfl rfl (by omega)) <|
     hc (gtcT rfl (by omega)) <|
     hc (kMid (P := 0) (Q := 512) (isX rfl) (.inl ⟨rfl, rfl⟩) (.inr ⟨_, _, rfl, (isZ (m := 512) rfl)⟩) (by omega) (by omega) (by omega) (denX rfl)) <|
     hc (kLenE (isX rfl) (denZ (m := 512) rfl) (by omega)) <|
     hc (kMid (P := 512) (Q := (body.length : Int) - 512) (isX rfl) (.inr ⟨_, _, rfl, (isZ (m := 512) rfl)⟩) (.inl ⟨rfl, by first | omega | (simp <;> omega)⟩) (by omega) (by omega) (by omega) (denX rfl)) <|
     hc (lnV rfl rfl (by omega)) <|
     hc (gtcF rfl (by omega)) <|
     hc (kNeS (isX rfl) (isSx (l := ([] : LB)) 0 0 rfl) (bnT (nilF (by omega)))) <|
     hc (kMax (isX rfl) (isZ (m := 0) rfl) (denX rfl) (by omega)) <|
     hc (kNeg (isX rfl) (denX rfl) (by omega) (fI64 (by omega) (by omega))) <|
     hc (kAndG 3 8 rfl (by decide) (isX rfl) (isZ (m := 7) rfl) (denX rfl) (fI64 (by omega) (by omega)) rfl rfl (fI64 (by omega) (by omega))) <|
     hc (gtcT rfl (by omega)) <|
     hc (kMin (isZ (m := 512) rfl) (isX rfl) (denZ (m := 512) rfl) (by omega)) <|
     hc (gtcT rfl (by omega)) <|
     hc (kMin (isZ (m := 512) rfl) (isX rfl) (denZ (m := 512) rfl) (by omega)) <|
     hc (gtcT rfl (by omega)) <|
     hc (kMin (isZ (m := 512) rfl) (isX rfl) (denX rfl) (by omega)) <|
     hc (kCut (isX rfl) (.inl ⟨rfl, rfl⟩) (.inr ⟨_, _, rfl, (isX rfl)⟩) (p := []) (m := (List.take (Int.toNat ((body.length : Int) - 512 - (512))) (List.drop (Int.toNat (512)) (List.take (Int.toNat ((body.length : Int) - (512))) (List.drop (Int.toNat (512)) body))))) (q := []) (by simp) rfl (by simp <;> omega) (denX rfl)) <|
     hc (kMax (isZ (m := 0) rfl) (isX rfl) (denX rfl) (by omega)) <|
     hc (kRem (isX rfl) (isZ (m := 8) rfl) (denX rfl) (by omega) (by omega) rfl) <|
     hc (kSub (isZ (m := 8) rfl) (isX rfl) (denX rfl) (by omega) (fI64 (by omega) (by omega))) <|
     hc (kRem (isX rfl) (isZ (m := 8) rfl) (denX rfl) (by omega) (by omega) (by omega)) <|
     hc (kCut (isX rfl) (.inr ⟨_, _, rfl, (isX rfl)⟩) (.inl ⟨rfl, rfl⟩) (p := (List.take (Int.toNat ((body.length : Int) - 512 - (512))) (List.drop (Int.toNat (512)) (List.take (Int.toNat ((body.length : Int) - (512))) (List.drop (Int.toNat (512)) body))))) (m := []) (q := []) (by simp) (by first | rfl | omega) (by simp) (denX rfl)) <|
     hc (kLenE (isX rfl) (denZ (m := 0) rfl) rfl) <|
     hnil
  exact runPR (tb := tab15) (AllOk.lp1 ((tabkOk (nuX (nu15 body blk_z base_z es_z z) (rX (ro15 body blk_z base_z es_z z) (fun _ => .bool true))) (nuX_one (on15 body blk_z base_z es_z z))).hyps ho) (by omega) fi3_at fi3_body (lfCons (lpKnown rfl ⟨0, keyL, lfOkL (l := lfg4) (h := lhg4) z (List.take (Int.toNat (512 - (0))) (List.drop (Int.toNat (0)) body)) (List.take (Int.toNat (512 - (0))) (List.drop (Int.toNat (0)) (List.take (Int.toNat ((body.length : Int) - (512))) (List.drop (Int.toNat (512)) body)))) ([] : LB) (List.take (Int.toNat ((body.length : Int) - 512 - (512))) (List.drop (Int.toNat (512)) (List.take (Int.toNat ((body.length : Int) - (512))) (List.drop (Int.toNat (512)) body)))) ((1024 - (body.length : Int)) % 8) (by omega) (by assumption) 3 (by decide) rfl (by kernel_rfl) (th0 := [(0, .i .i64 (.ofNat 0)), (1, .x 3), (2, .x 6), (4, .x 7), (5, .x 11), (2000000, .x 2000000)]) (sg0 := [(150, 34), (152, 54), (151, 33)]) (fun X => thCons (isTo (isI .i64 (.ofNat 0)) ds00) (thXv (v := St' (List.take (Int.toNat (512 - (0))) (List.drop (Int.toNat (0)) body))) rfl ds1 (thXv (v := St' (List.take (Int.toNat (512 - (0))) (List.drop (Int.toNat (0)) (List.take (Int.toNat ((body.length : Int) - (512))) (List.drop (Int.toNat (512)) body))))) rfl ds2 (thXv (v := St' (List.take (Int.toNat ((body.length : Int) - 512 - (512))) (List.drop (Int.toNat (512)) (List.take (Int.toNat ((body.length : Int) - (512))) (List.drop (Int.toNat (512)) body))))) rfl ds4 (thXv (v := .int .i64 ((1024 - (body.length : Int)) % 8)) rfl ds5 (thXv (v := rwG stC z) rfl ds2000000 thNil)))))) (by kernel_rfl) (by kernel_rfl)⟩) lfNil)) rfl (get_lps (by omega)) fiB3 [.r 2000000 34 5 true] [⟨blk_z, base_z, z.length, es_z⟩] (run15 ) (args := [St' body, .slice (some ⟨blk_z, base_z, none⟩) z.length es_z]) ⟨_, _, rfl, rfl, ⟨_, _, rfl, relSr w_z.room, rfl⟩⟩ w hl rfl (by decide) (args1 (w_z.arg (g_z ) rfl)) nodup1
def hy16 : LK := [(.len (.x 0), .x 1),
  (.bin .gtr (.x 1) (.i .i64 (.ofNat 2000)), .b false),
  (.rl (.x 2000000) 5, .x 2),
  (.bin .gtr (.x 2) (.i .i64 (.ofNat 60)), .b false),
  (.bin .gtr (.x 1) (.i .i64 (.ofNat 512)), .b true),
  (.sub (.x 0) none (some (.i .i64 (.ofNat 512))), .x 3),
  (.len (.x 3), .i .i64 (.ofNat 512)),
  (.sub (.x 0) (some (.i .i64 (.ofNat 512))) none, .x 4),
  (.len (.x 4), .x 5),
  (.bin .gtr (.x 5) (.i .i64 (.ofNat 512)), .b true),
  (.sub (.x 4) none (some (.i .i64 (.ofNat 512))), .x 6),
  (.len (.x 6), .i .i64 (.ofNat 512)),
  (.sub (.x 4) (some (.i .i64 (.ofNat 512))) none, .x 7),
  (.len (.x 7), .x 8),
  (.bin .gtr (.x 8) (.i .i64 (.ofNat 512)), .b true),
  (.sub (.x 7) none (some (.i .i64 (.ofNat 512))), .x 9),
  (.len (.x 9), .i .i64 (.ofNat 512)),
  (.sub (.x 7) (some (.i .i64 (.ofNat 512))) none, .x 10),
  (.len (.x 10), .x 11),
  (.bin .gtr (.x 11) (.i .i64 (.ofNat 512)), .b false),
  (.bin .neq (.x 10) (.s 0 0), .b true),
  (.mm true (.x 11) (.i .i64 (.ofNat 0)), .x 12),
  (.un .neg (.x 12), .x 13),
  (.bin .and (.x 13) (.i .i64 (.ofNat 7)), .x 14),
  (.bin .gtr (.x 1) (.i .i64 (.ofNat 0)), .b true),
  (.mm false (.i .i64 (.ofNat 512)) (.x 1), .i .i64 (.ofNat 512)),
  (.bin .gtr (.x 5) (.i .i64 (.ofNat 0)), .b true),
  (.mm false (.i .i64 (.ofNat 512)) (.x 5), .i .i64 (.ofNat 512)),
  (.bin .gtr (.x 8) (.i .i64 (.ofNat 0)), .b true),
  (.mm false (.i .i64 (.ofNat 512)) (.x 8), .i .i64 (.ofNat 512)),
  (.bin .gtr (.x 11) (.i .i64 (.ofNat 0)), .b true),
  (.mm false (.i .i64 (.ofNat 512)) (.x 11), .x 15),
  (.sub (.x 10) none (some (.x 15)), .x 10),
  (.mm true (.i .i64 (.ofNat 0)) (.x 15), .x 16),
  (.bin .rem (.x 16) (.i .i64 (.ofNat 8)), .x 17),
  (.bin .sub (.i .i64 (.ofNat 8)) (.x 17), .x 18),
  (.bin .rem (.x 18) (.i .i64 (.ofNat 8)), .x 14),
  (.sub (.x 10) (some (.x 15)) none, .x 19),
  (.len (.x 19), .i .i64 (.ofNat 0))]
def lhg5 : LH := ⟨1, 150, 210, [(1, .r 2000000 34 5 true), (37, .b ⟨51, .l [.i .i64 (.ofNat 1), .sl 36 0 8 0 true, .b false, .b false, .b false, .b false, .b false, .i .u32 (.ofNat 0), .i .i64 (.ofNat 0)], 0, 0, 0, false, false⟩), (36, .b ⟨32, .l [.i .i64 (.ofNat 1), .i .i64 (.ofNat 1), .s 8 65792, .i .i64 (.ofNat 0), .i .i64 (.ofNat 4), .i .i64 (.ofNat 1), .s 4 1986920705, .i .i64 (.ofNat 4), .i .i64 (.ofNat 4), .i .i64 (.ofNat 1), .s 0 0, .i .i64 (.ofNat 0), .i .i64 (.ofNat 5), .i .i64 (.ofNat 1), .x 3, .i .i64 (.ofNat 0), .i .i64 (.ofNat 5), .i .i64 (.ofNat 1), .x 6, .i .i64 (.ofNat 0), .i .i64 (.ofNat 5), .i .i64 (.ofNat 1), .x 9, .i .i64 (.ofNat 0), .i .i64 (.ofNat 5), .i .i64 (.ofNat 1), .x 10, .x 14, .i .i64 (.ofNat 5), .i .i64 (.ofNat 1), .s 0 0, .i .i64 (.ofNat 0)], 32, 4, 0, false, true⟩), (59, .b ⟨32, .l [.i .i64 (.ofNat 1), .i .i64 (.ofNat 1), .s 8 65792, .i .i64 (.ofNat 0), .i .i64 (.ofNat 4), .i .i64 (.ofNat 1), .s 4 1986920705, .i .i64 (.ofNat 4), .i .i64 (.ofNat 4), .i .i64 (.ofNat 1), .s 0 0, .i .i64 (.ofNat 0), .i .i64 (.ofNat 5), .i .i64 (.ofNat 1), .x 3, .i .i64 (.ofNat 0), .i .i64 (.ofNat 5), .i .i64 (.ofNat 1), .x 6, .i .i64 (.ofNat 0), .i .i64 (.ofNat 5), .i .i64 (.ofNat 1), .x 9, .i .i64 (.ofNat 0), .i .i64 (.ofNat 5), .i .i64 (.ofNat 1), .x 10, .x 14, .i .i64 (.ofNat 5), .i .i64 (.ofNat 1), .s 0 0, .i .i64 (.ofNat 0)], 32, 4, 0, false, true⟩)], []⟩
def lfg5 : LF := ⟨9, 96, [(1, .sr 1), (5, .p 37 0), (9, .i .i64 (.ofNat 0)), (6, .sl 59 0 8 0 true), (7, .i .i64 (.ofNat 0)), (8, .b false)], [], .exit 0, [], some lhg5⟩
noncomputable def tab16 : Tab := addLps ({ tabk with hyp := hy16 }) 3 fi3 [lfg5]
theorem run16 : Go.AX.okB (call tab16 9000 3 [.x 0, .sr 1] ⟨addR 1 [.r 2000000 34 5 true] (H0 ), 1 + List.length (α := Ent) [.r 2000000 34 5 true], 0, 0⟩) = true := by kernel_rfl
def nu16 (body : LB) (blk_z : Nat) (base_z : Nat) (es_z : Nat) (z : List (Int × Int × Int × LB × Int)) : List Value := [St' body,
  .int .i64 ((body.length : Int)),
  .int .i64 ((z.length : Int)),
  St' (List.take (Int.toNat (512 - (0))) (List.drop (Int.toNat (0)) body)),
  St' (List.take (Int.toNat ((body.length : Int) - (512))) (List.drop (Int.toNat (512)) body)),
  .int .i64 ((body.length : Int) - 512),
  St' (List.take (Int.toNat (512 - (0))) (List.drop (Int.toNat (0)) (List.take (Int.toNat ((body.length : Int) - (512))) (List.drop (Int.toNat (512)) body)))),
  St' (List.take (Int.toNat ((body.length : Int) - 512 - (512))) (List.drop (Int.toNat (512)) (List.take (Int.toNat ((body.length : Int) - (512))) (List.drop (Int.toNat (512)) body)))),
  .int .i64 ((body.length : Int) - 1024),
  St' (List.take (Int.toNat (512 - (0))) (List.drop (Int.toNat (0)) (List.take (Int.toNat ((body.length : Int) - 512 - (512))) (List.drop (Int.toNat (512)) (List.take (Int.toNat ((body.length : Int) - (512))) (List.drop (Int.toNat (512)) body)))))),
  St' (List.take (Int.toNat ((body.length : Int) - 1024 - (512))) (List.drop (Int.toNat (512)) (List.take (Int.toNat ((body.length : Int) - 512 - (512))) (List.drop (Int.toNat (512)) (List.take (Int.toNat ((body.length : Int) - (512))) (List.drop (Int.toNat (512)) body)))))),
  .int .i64 ((body.length : Int) - 1536),
  .int .i64 ((body.length : Int) - 1536),
  .int .i64 (1536 - (body.length : Int)),
  .int .i64 ((1536 - (body.length : Int)) % 8),
  .int .i64 ((body.length : Int) - 1536),
  .int .i64 ((body.length : Int) - 1536),
  .int .i64 (((body.length : Int) - 1536) % 8),
  .int .i64 (8 - (((body.length : Int) - 1536) % 8)),
  St' ([] : LB)]
def ro16 (body : LB) (blk_z : Nat) (base_z : Nat) (es_z : Nat) (z : List (Int × Int × Int × LB × Int)) : List Value := [rwG stC z]
theorem on16 (body : LB) (blk_z : Nat) (base_z : Nat) (es_z : Nat) (z : List (Int × Int × Int × LB × Int)) : ∀ j, (nuL (nu16 body blk_z base_z es_z z) j).oneCell' = true := nuL_one (l := nu16 body blk_z base_z es_z z) rfl
theorem path16 (body : LB) (blk_z : Nat) (base_z : Nat) (es_z : Nat) (z : List (Int × Int × Int × LB × Int)) (b0 : body.length ≤ 9223372036854775807) (b1 : ∀ n, n ∈ z → stB n) (b2 : z.length ≤ 9223372036854775807) (h0 : ¬ (2000 < (body.length : Int))) (h1 : ¬ (60 < (z.length : Int))) (h2 : 512 < (body.length : Int)) (h3 : 512 < (body.length : Int) - 512) (h4 : 512 < (body.length : Int) - 1024) (w : World) (hl : laidE w) (w_z : InRow w 5 (z.flatMap stC) blk_z base_z z.length es_z) (g_z : (H0 ).get blk_z = none) : CwR 3 #[St' body, .slice (some ⟨blk_z, base_z, none⟩) z.length es_z] w (.bool true) := by
  have := lenMd (l := body) (P := 0) (Q := 512) (by omega)
  have := lenMd (l := body) (P := 512) (Q := (body.length : Int)) (by omega)
  have := lenMd (l := (List.take (Int.toNat ((body.length : Int) - (512))) (List.drop (Int.toNat (512)) body))) (P := 0) (Q := 512) (by omega)
  have := lenMd (l := (List.take (Int.toNat ((body.length : Int) - (512))) (List.drop (Int.toNat (512)) body))) (P := 512) (Q := (body.length : Int) - 512) (by omega)
  have := lenMd (l := (List.take (Int.toNat ((body.length : Int) - 512 - (512))) (List.drop (Int.toNat (512)) (List.take (Int.toNat ((body.length : Int) - (512))) (List.drop (Int.toNat (512)) body))))) (P := 0) (Q := 512) (by omega)
  have := lenMd (l := (List.take (Int.toNat ((body.length : Int) - 512 - (512))) (List.drop (Int.toNat (512)) (List.take (Int.toNat ((body.length : Int) - (512))) (List.drop (Int.toNat (512)) body))))) (P := 512) (Q := (body.length : Int) - 1024) (by omega)
  have ho : ∀ k r, (k, r) ∈ hy16 → HOk (cx (nuX (nu16 body blk_z base_z es_z z) (rX (ro16 body blk_z base_z es_z z) (fun _ => .bool true))) (nuX_one (on16 body blk_z base_z es_z z)) 0 laidE laidE_stab) k r := by
    unfold hy16
    exact hc (lnV rfl rfl (by omega)) <|
     hc (gtcF rfl (by omega)) <|
     hc (kRlG stC_len (isX rfl) (denX rfl) (by first | omega | (simp <;> omega))) <|
     hc (gtcF rfl (by omega)) <|
     hc (gtcT rfl (by omega)) <|
     hc (kMid (P := 0) (Q := 512) (isX rfl) (.inl ⟨rfl, rfl⟩) (.inr ⟨_, _, rfl, (isZ (m := 512) rfl)⟩) (by omega) (by omega) (by omega) (denX rfl)) <|
     hc (kLenE (isX rfl) (denZ (m := 512) rfl) (by omega)) <|
     hc (kMid (P := 512) (Q := (body.length : Int)) (isX rfl) (.inr ⟨_, _, rfl, (isZ (m := 512) rfl)⟩) (.inl ⟨rfl, by first | omega | (simp <;> omega)⟩) (by omega) (by omega) (by omega) (denX rfl)) <|
     hc (lnV rfl rfl (by omega)) <|
     hc (gtcT rfl (by omega)) <|
     hc (kMid (P := 0) (Q := 512) (isX rfl) (.inl ⟨rfl, rfl⟩) (.inr ⟨_, _, rfl, (isZ (m := 512) rfl)⟩) (by omega) (by omega) (by omega) (denX rfl)) <|
     hc (kLenE (isX rfl) (denZ (m := 512) rfl) (by omega)) <|
     hc (kMid (P := 512) (Q := (body.length : Int) - 512) (isX rfl) (.inr ⟨_, _, rfl, (isZ (m := 512) rfl)⟩) (.inl ⟨rfl, by first | omega | (simp <;> omega)⟩) (by omega) (by omega) (by omega) (denX rfl)) <|
     hc (lnV rfl rfl (by omega)) <|
     hc (gtcT rfl (by omega)) <|
     hc (kMid (P := 0) (Q := 512) (isX rfl) (.inl ⟨rfl, rfl⟩) (.inr ⟨_, _, rfl, (isZ (m := 512) rfl)⟩) (by omega) (by omega) (by omega) (denX rfl)) <|
     hc (kLenE (isX rfl) (denZ (m := 512) rfl) (by omega)) <|
     hc (kMid (P := 512) (Q := (body.length : Int) - 1024) (isX rfl) (.inr ⟨_, _, rfl, (isZ (m := 512) rfl)⟩) (.inl ⟨rfl, by first | omega | (simp <;> omega)⟩) (by omega) (by omega) (by omega) (denX rfl)) <|
     hc (lnV rfl rfl (by omega)) <|
     hc (gtcF rfl (by omega)) <|
     hc (kNeS (isX rfl) (isSx (l := ([] : LB)) 0 0 rfl) (bnT (nilF (by omega)))) <|
     hc (kMax (isX rfl) (isZ (m := 0) rfl) (denX rfl) (by omega)) <|
     hc (kNeg (isX rfl) (denX rfl) (by omega) (fI64 (by omega) (by omega))) <|
     hc (kAndG 3 8 rfl (by decide) (isX rfl) (isZ (m := 7) rfl) (denX rfl) (fI64 (by omega) (by omega)) rfl rfl (fI64 (by omega) (by omega))) <|
     hc (gtcT rfl (by omega)) <|
     hc (kMin (isZ (m := 512) rfl) (isX rfl) (denZ (m := 512) rfl) (by omega)) <|
     hc (gtcT rfl (by omega)) <|
     hc (kMin (isZ (m := 512) rfl) (isX rfl) (denZ (m := 512) rfl) (by omega)) <|
     hc (gtcT rfl (by omega)) <|
     hc (kMin (isZ (m := 512) rfl) (isX rfl) (denZ (m := 512) rfl) (by omega)) <|
     hc (gtcT rfl (by omega)) <|
     hc (kMin (isZ (m := 512) rfl) (isX rfl) (denX rfl) (by omega)) <|
     hc (kCut (isX rfl) (.inl ⟨rfl, rfl⟩) (.inr ⟨_, _, rfl, (isX rfl)⟩) (p := []) (m := (List.take (Int.toNat ((body.length : Int) - 1024 - (512))) (List.drop (Int.toNat (512)) (List.take (Int.toNat ((body.length : Int) - 512 - (512))) (List.drop (Int.toNat (512)) (List.take (Int.toNat ((body.length : Int) - (512))) (List.drop (Int.toNat (512)) body))))))) (q := []) (by simp) rfl (by simp <;> omega) (denX rfl)) <|
     hc (kMax (isZ (m := 0) rfl) (isX rfl) (denX rfl) (by omega)) <|
     hc (kRem (isX rfl) (isZ (m := 8) rfl) (denX rfl) (by omega) (by omega) rfl) <|
     hc (kSub (isZ (m := 8) rfl) (isX rfl) (denX rfl) (by omega) (fI64 (by omega) (by omega))) <|
     hc (kRem (isX rfl) (isZ (m := 8) rfl) (denX rfl) (by omega) (by omega) (by omega)) <|
     hc (kCut (isX rfl) (.inr ⟨_, _, rfl, (isX rfl)⟩) (.inl ⟨rfl, rfl⟩) (p := (List.take (Int.toNat ((body.length : Int) - 1024 - (512))) (List.drop (Int.toNat (512)) (List.take (Int.toNat ((body.length : Int) - 512 - (512))) (List.drop (Int.toNat (512)) (List.take (Int.toNat ((body.length : Int) - (512))) (List.drop (Int.toNat (512)) body))))))) (m := []) (q := []) (by simp) (by first | rfl | omega) (by simp) (denX rfl)) <|
     hc (kLenE (isX rfl) (denZ (m := 0) rfl) rfl) <|
     hnil
  exact runPR (tb := tab16) (AllOk.lp1 ((tabkOk (nuX (nu16 body blk_z base_z es_z z) (rX (ro16 body blk_z base_z es_z z) (fun _ => .bool true))) (nuX_one (on16 body blk_z base_z es_z z))).hyps ho) (by omega) fi3_at fi3_body (lfCons (lpKnown rfl ⟨0, keyL, lfOkL (l := lfg5) (h := lhg5) z (List.take (Int.toNat (512 - (0))) (List.drop (Int.toNat (0)) body)) (List.take (Int.toNat (512 - (0))) (List.drop (Int.toNat (0)) (List.take (Int.toNat ((body.length : Int) - (512))) (List.drop (Int.toNat (512)) body)))) (List.take (Int.toNat (512 - (0))) (List.drop (Int.toNat (0)) (List.take (Int.toNat ((body.length : Int) - 512 - (512))) (List.drop (Int.toNat (512)) (List.take (Int.toNat ((body.length : Int) - (512))) (List.drop (Int.toNat (512)) body)))))) (List.take (Int.toNat ((body.length : Int) - 1024 - (512))) (List.drop (Int.toNat (512)) (List.take (Int.toNat ((body.length : Int) - 512 - (512))) (List.drop (Int.toNat (512)) (List.take (Int.toNat ((body.length : Int) - (512))) (List.drop (Int.toNat (512)) body)))))) ((1536 - (body.length : Int)) % 8) (by omega) (by assumption) 4 (by decide) rfl (by kernel_rfl) (th0 := [(0, .i .i64 (.ofNat 0)), (1, .x 3), (2, .x 6), (3, .x 9), (4, .x 10), (5, .x 14), (2000000, .x 2000000)]) (sg0 := [(150, 37), (152, 59), (151, 36)]) (fun X => thCons (isTo (isI .i64 (.ofNat 0)) ds00) (thXv (v := St' (List.take (Int.toNat (512 - (0))) (List.drop (Int.toNat (0)) body))) rfl ds1 (thXv (v := St' (List.take (Int.toNat (512 - (0))) (List.drop (Int.toNat (0)) (List.take (Int.toNat ((body.length : Int) - (512))) (List.drop (Int.toNat (512)) body))))) rfl ds2 (thXv (v := St' (List.take (Int.toNat (512 - (0))) (List.drop (Int.toNat (0)) (List.take (Int.toNat ((body.length : Int) - 512 - (512))) (List.drop (Int.toNat (512)) (List.take (Int.toNat ((body.length : Int) - (512))) (List.drop (Int.toNat (512)) body))))))) rfl ds3 (thXv (v := St' (List.take (Int.toNat ((body.length : Int) - 1024 - (512))) (List.drop (Int.toNat (512)) (List.take (Int.toNat ((body.length : Int) - 512 - (512))) (List.drop (Int.toNat (512)) (List.take (Int.toNat ((body.length : Int) - (512))) (List.drop (Int.toNat (512)) body))))))) rfl ds4 (thXv (v := .int .i64 ((1536 - (body.length : Int)) % 8)) rfl ds5 (thXv (v := rwG stC z) rfl ds2000000 thNil))))))) (by kernel_rfl) (by kernel_rfl)⟩) lfNil)) rfl (get_lps (by omega)) fiB3 [.r 2000000 34 5 true] [⟨blk_z, base_z, z.length, es_z⟩] (run16 ) (args := [St' body, .slice (some ⟨blk_z, base_z, none⟩) z.length es_z]) ⟨_, _, rfl, rfl, ⟨_, _, rfl, relSr w_z.room, rfl⟩⟩ w hl rfl (by decide) (args1 (w_z.arg (g_z ) rfl)) nodup1
def hy17 : LK := [(.len (.x 0), .x 1),
  (.bin .gtr (.x 1) (.i .i64 (.ofNat 2000)), .b true)]
theorem run17 : Go.AX.okB (call (tbl hy17) 9000 3 [.x 0, .sr 1] ⟨addR 1 [.r 2000000 34 5 true] (H0 ), 1 + List.length (α := Ent) [.r 2000000 34 5 true], 0, 0⟩) = true := by kernel_rfl
def nu17 (body : LB) (blk_z : Nat) (base_z : Nat) (es_z : Nat) (z : List (Int × Int × Int × LB × Int)) : List Value := [St' body,
  .int .i64 ((body.length : Int))]
def ro17 (body : LB) (blk_z : Nat) (base_z : Nat) (es_z : Nat) (z : List (Int × Int × Int × LB × Int)) : List Value := [rwG stC z]
theorem on17 (body : LB) (blk_z : Nat) (base_z : Nat) (es_z : Nat) (z : List (Int × Int × Int × LB × Int)) : ∀ j, (nuL (nu17 body blk_z base_z es_z z) j).oneCell' = true := nuL_one (l := nu17 body blk_z base_z es_z z) rfl
theorem path17 (body : LB) (blk_z : Nat) (base_z : Nat) (es_z : Nat) (z : List (Int × Int × Int × LB × Int)) (b0 : body.length ≤ 9223372036854775807) (b1 : ∀ n, n ∈ z → stB n) (b2 : z.length ≤ 9223372036854775807) (h0 : 2000 < (body.length : Int)) (w : World) (hl : laidE w) (w_z : InRow w 5 (z.flatMap stC) blk_z base_z z.length es_z) (g_z : (H0 ).get blk_z = none) : CwR 3 #[St' body, .slice (some ⟨blk_z, base_z, none⟩) z.length es_z] w (.bool true) := by
  have ho : ∀ k r, (k, r) ∈ hy17 → HOk (cx (nuX (nu17 body blk_z base_z es_z z) (rX (ro17 body blk_z base_z es_z z) (fun _ => .bool true))) (nuX_one (on17 body blk_z base_z es_z z)) 0 laidE laidE_stab) k r := by
    unfold hy17
    exact hc (lnV rfl rfl (by omega)) <|
     hc (gtcT rfl (by omega)) <|
     hnil
  obtain ⟨fi, hfi, hb⟩ := fiE
  exact runPR (tb := (tbl hy17)) ((tabkOk (nuX (nu17 body blk_z base_z es_z z) (rX (ro17 body blk_z base_z es_z z) (fun _ => .bool true))) (nuX_one (on17 body blk_z base_z es_z z))).hyps ho) rfl hfi hb [.r 2000000 34 5 true] [⟨blk_z, base_z, z.length, es_z⟩] (run17 ) (args := [St' body, .slice (some ⟨blk_z, base_z, none⟩) z.length es_z]) ⟨_, _, rfl, rfl, ⟨_, _, rfl, relSr w_z.room, rfl⟩⟩ w hl rfl (by decide) (args1 (w_z.arg (g_z ) rfl)) nodup1
end Go.Proofs.Ytgimfcnobfelbaa.laneGrammar
