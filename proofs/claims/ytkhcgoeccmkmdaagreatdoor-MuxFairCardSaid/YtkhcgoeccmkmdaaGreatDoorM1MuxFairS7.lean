/- A part of the proof: an interpreter of the model's own code on partly known states, and that what it answers is what the program answers. No condition of its own. -/
import Derived.Test.YtkhcgoeccmkmdaaGreatDoorM1MuxFairQ
set_option maxRecDepth 100000
set_option linter.unusedVariables false
set_option linter.unusedSimpArgs false
set_option maxHeartbeats 4000000
namespace Go.Proofs.YtkhcgoeccmkmdaaGreatDoor.muxFair
open Go Go.AX Go.Proofs Go.Proofs.YtkhcgoeccmkmdaaGreatDoor
def hy21 : LK := [(.bin .rem (.x 0) (.i .u8 (.ofNat 6)), .i .u8 (.ofNat 4)),
  (.bin .rem (.x 1) (.i .u16 (.ofNat 2000)), .x 2),
  (.conv 3 (.x 2), .x 3),
  (.zer (.x 3), .x 4),
  (.len (.x 4), .x 5),
  (.bin .gtr (.x 5) (.i .i64 (.ofNat 512)), .b false),
  (.bin .neq (.x 4) (.s 0 0), .b true),
  (.mm true (.x 5) (.i .i64 (.ofNat 0)), .x 6),
  (.un .neg (.x 6), .x 7),
  (.bin .and (.x 7) (.i .i64 (.ofNat 7)), .x 8),
  (.byt (.x 9) (.i .i64 (.ofNat 0)), .x 11),
  (.len (.x 9), .x 12),
  (.fit (.x 9), .b true),
  (.bin .neq (.x 10) (.s 0 0), .b false)]
def lhd43 : LH := ⟨4, 300, 500, [(6, .b ⟨80, .l [.sl 4 0 8 8 false, .p 5 0, .s 0 0, i6 0, .nils, .b false], 0, 0, 0, false, false⟩), (4, .b ⟨81, .l [.p 26 0, .p 48 0, .p 72 0, .p 98 0, .p 126 0, .p 156 0, .nilp, .nilp], 0, 0, 0, false, false⟩), (157, .b ⟨86, .l [.nilp, .nils], 0, 0, 0, false, false⟩), (26, lnK 1 25 0 4 0 false), (48, lnK 2 47 0 4 0 false), (72, lnK 3 71 0 4 0 false), (98, lnK 4 97 0 4 0 false), (126, lnK 5 125 0 4 0 false), (156, lnK 6 155 0 4 0 false), (25, .b ⟨40, .l [i6 1, i6 1, .s 8 65792, i6 0, i6 4, i6 1, .s 0 0, i6 0, i6 5, i6 1, .x 4, .x 8, i6 5, i6 1, .s 0 0, i6 0], 16, 4, 0, false, true⟩), (47, .b ⟨40, .l [i6 1, i6 2, .s 8 65792, i6 0, i6 4, i6 2, .s 0 0, i6 0, i6 5, i6 2, .x 4, .x 8, i6 5, i6 2, .s 0 0, i6 0], 16, 4, 0, false, true⟩), (71, .b ⟨40, .l [i6 1, i6 3, .s 8 65792, i6 0, i6 4, i6 3, .s 0 0, i6 0, i6 5, i6 3, .x 4, .x 8, i6 5, i6 3, .s 0 0, i6 0], 16, 4, 0, false, true⟩), (97, .b ⟨40, .l [i6 1, i6 4, .s 8 65792, i6 0, i6 4, i6 4, .s 0 0, i6 0, i6 5, i6 4, .x 4, .x 8, i6 5, i6 4, .s 0 0, i6 0], 16, 4, 0, false, true⟩), (125, .b ⟨40, .l [i6 1, i6 5, .s 8 65792, i6 0, i6 4, i6 5, .s 0 0, i6 0, i6 5, i6 5, .x 4, .x 8, i6 5, i6 5, .s 0 0, i6 0], 16, 4, 0, false, true⟩), (155, .b ⟨40, .l [i6 1, i6 6, .s 8 65792, i6 0, i6 4, i6 6, .s 0 0, i6 0, i6 5, i6 6, .x 4, .x 8, i6 5, i6 6, .s 0 0, i6 0], 16, 4, 0, false, true⟩)], [(6, .b ⟨80, .l [.sl 4 0 8 8 false, .p 5 0, .x 10, i6 6, .nils, .b false], 0, 0, 0, false, false⟩), (4, .b ⟨81, .l [.p 302 0, .p 304 0, .p 306 0, .p 308 0, .p 310 0, .p 312 0, .nilp, .nilp], 0, 0, 0, false, false⟩), (302, lnK 1 303 16 0 4 true), (303, .b ⟨40, .l [i6 1, i6 1, .s 8 65792, i6 0, i6 4, i6 1, .s 0 0, i6 0, i6 5, i6 1, .x 4, .x 8, i6 5, i6 1, .s 0 0, i6 0], 16, 4, 0, false, true⟩), (304, lnK 2 305 16 0 4 true), (305, .b ⟨40, .l [i6 1, i6 2, .s 8 65792, i6 0, i6 4, i6 2, .s 0 0, i6 0, i6 5, i6 2, .x 4, .x 8, i6 5, i6 2, .s 0 0, i6 0], 16, 4, 0, false, true⟩), (306, lnK 3 307 16 0 4 true), (307, .b ⟨40, .l [i6 1, i6 3, .s 8 65792, i6 0, i6 4, i6 3, .s 0 0, i6 0, i6 5, i6 3, .x 4, .x 8, i6 5, i6 3, .s 0 0, i6 0], 16, 4, 0, false, true⟩), (308, lnK 4 309 16 0 4 true), (309, .b ⟨40, .l [i6 1, i6 4, .s 8 65792, i6 0, i6 4, i6 4, .s 0 0, i6 0, i6 5, i6 4, .x 4, .x 8, i6 5, i6 4, .s 0 0, i6 0], 16, 4, 0, false, true⟩), (310, lnK 5 311 16 0 4 true), (311, .b ⟨40, .l [i6 1, i6 5, .s 8 65792, i6 0, i6 4, i6 5, .s 0 0, i6 0, i6 5, i6 5, .x 4, .x 8, i6 5, i6 5, .s 0 0, i6 0], 16, 4, 0, false, true⟩), (312, lnK 6 313 16 0 4 true), (313, .b ⟨40, .l [i6 1, i6 6, .s 8 65792, i6 0, i6 4, i6 6, .s 0 0, i6 0, i6 5, i6 6, .x 4, .x 8, i6 5, i6 6, .s 0 0, i6 0], 16, 4, 0, false, true⟩), (300, .b ⟨86, .l [.p 300 0, .sy 301], 0, 0, 0, false, false⟩), (301, .t 9 5)]⟩
def lfd43 : LF := ⟨2, 47, [(0, .p 6 0), (1, i6 1000000), (5, .p 157 0)], [], .exit 0, [(5, .p 300 0)], some lhd43⟩
def lhw44 : LH := ⟨4, 520, 580, [(500, .b ⟨38, .l [i6 0, i6 0, i6 0, i6 0, i6 0, i6 0, i6 0, i6 0, i6 0], 0, 0, 0, false, false⟩)], []⟩
def lfw44 : LF := ⟨11, 91, [(5, i6 6), (6, .p 6 0), (8, .x 9), (9, .p 500 0)], [], .exit 2, [(6, .p 6 0)], some lhw44⟩
noncomputable def tab21 : Tab := addLps (addLps ({ tabk with hyp := hy21 }) 14 fi14 [lfd43]) 4 fi4 [lfw44]
theorem run21 (e : Nat) : Go.AX.okB (call tab21 9000 4 [.x 0, .x 1] ⟨H0 e , 4, 0, 0⟩) = true := by kernel_rfl
def nu21 (n : Int) (body : Int) : List Value := [.int .u8 (n),
  .int .u16 (body),
  .int .u16 (body % 2000),
  .int .i64 ((body % 2000)),
  St' (List.replicate (Int.toNat ((body % 2000))) 0),
  .int .i64 ((body % 2000)),
  .int .i64 ((body % 2000)),
  .int .i64 (-((body % 2000))),
  .int .i64 ((-((body % 2000))) % 8),
  St' (seqS (rcJ (List.replicate 512 0) (List.replicate (Int.toNat ((body % 2000))) 0) ((-((body % 2000))) % 8) 1 6) 0 24),
  St' ([] : LB),
  .int .u8 (bt (seqS (rcJ (List.replicate 512 0) (List.replicate (Int.toNat ((body % 2000))) 0) ((-((body % 2000))) % 8) 1 6) 0 24) 0),
  .int .i64 (((seqS (rcJ (List.replicate 512 0) (List.replicate (Int.toNat ((body % 2000))) 0) ((-((body % 2000))) % 8) 1 6) 0 24).length : Int))]
theorem one21 (n : Int) (body : Int) : ∀ j, j < 1000000 → (nuL (nu21 n body) j).oneCell' = true := fun j _ => nuL_one (l := nu21 n body) rfl j
theorem path21 (n : Int) (body : Int) (b0 : 0 ≤ n) (b1 : n ≤ 255) (b2 : 0 ≤ body) (b3 : body ≤ 65535) (h0 : (n) % 6 = 4) (h1 : ¬ (512 < (body % 2000))) (h2 : ¬ ((body % 2000) = 0)) (w : World) (hl : laidE w) : CwR 4 #[.int .u8 n, .int .u16 body] w (.bool true) := by
  have hout := out_bd (List.replicate 512 0) (List.replicate (Int.toNat ((body % 2000))) 0) ((-((body % 2000))) % 8) (by first | (simp; done) | (rw [List.length_replicate]; omega)) (by first | (simp; done) | (rw [List.length_replicate]; omega)) (by omega) (by omega) 1 6 24 (by decide) (by decide)
  have := bt_lo (seqS (rcJ (List.replicate 512 0) (List.replicate (Int.toNat ((body % 2000))) 0) ((-((body % 2000))) % 8) 1 6) 0 24) 0; have := bt_hi (seqS (rcJ (List.replicate 512 0) (List.replicate (Int.toNat ((body % 2000))) 0) ((-((body % 2000))) % 8) 1 6) 0 24) 0
  have ho : ∀ k r, (k, r) ∈ hy21 → HOk (cx (nuL (nu21 n body)) (one21 n body) 1 laidE laidE_stab) k r := by
    unfold hy21
    exact hc (kRem (isX rfl) (isZ (m := 6) rfl) (denZ (m := 4) rfl) (by omega) (by omega) (by omega)) <|
     hc (kRem (isX rfl) (isZ (m := 2000) rfl) (denX rfl) (by omega) (by omega) rfl) <|
     hc (kConvF (isX rfl) tu3 (denX rfl) (fI64 (by omega) (by omega))) <|
     hc (kZer (isX rfl) (by omega) (by omega) (denX rfl)) <|
     hc (lnV rfl rfl (by first | omega | (simp <;> omega))) <|
     hc (gtcF rfl (by omega)) <|
     hc (kNeS (isX rfl) (isSx (l := ([] : LB)) 0 0 rfl) (bnT (nilF (by rw [List.length_replicate]; omega)))) <|
     hc (kMax (isX rfl) (isZ (m := 0) rfl) (denX rfl) (by omega)) <|
     hc (kNeg (isX rfl) (denX rfl) (by omega) (fI64 (by omega) (by omega))) <|
     hc (kAndG 3 8 rfl (by decide) (isX rfl) (isZ (m := 7) rfl) (denX rfl) (fI64 (by omega) (by omega)) rfl rfl (fI64 (by omega) (by omega))) <|
     hc (kByt (i := 0) (isX rfl) (isZ (m := 0) rfl) (denX rfl) rfl (by first | omega | (simp <;> omega)) rfl) <|
     hc (lnV rfl rfl (by omega)) <|
     hc (kFit (isX rfl) (by first | omega | (simp <;> omega))) <|
     hc (kNeS (isX rfl) (isSx (l := ([] : LB)) 0 0 rfl) (bnF (decide_eq_true rfl))) <|
     hnil
  exact runP (tb := tab21) (AllOk.lp1 (AllOk.lp1 ((tabkOk (nuL (nu21 n body)) (one21 n body)).hyps ho) (by omega) fi14_at fi14_body (lfCons (lpKnown rfl ⟨0, keyD, lfOkD (l := lfd43) (h := lhd43) (List.replicate 512 0) (List.replicate (Int.toNat ((body % 2000))) 0) ((-((body % 2000))) % 8) (by first | (simp; done) | (rw [List.length_replicate]; omega)) (by first | (simp; done) | (rw [List.length_replicate]; omega)) (by omega) (by omega) 6 1 24 (by decide) (by decide) (by decide) (by decide) hD6_1 dA6_1 (eA1 e6_1) rfl (by kernel_rfl) (th0 := [(1, .i .i64 (.ofNat 1000000)), (2, .s 0 0), (4, .x 4), (5, .x 8)]) (sg0 := [(300, 157), (302, 26), (304, 48), (306, 72), (308, 98), (310, 126), (312, 156), (303, 25), (305, 47), (307, 71), (309, 97), (311, 125), (313, 155)]) (fun X => thCons (show Is _ (.i .i64 (.ofNat 1000000)) (.int .i64 1000000) from isI _ _) (thCons (show Is _ (.s 0 0) (St' []) from isSx (l := []) 0 0 rfl) (thXv (v := St' (List.replicate (Int.toNat ((body % 2000))) 0)) rfl rfl (thXv (v := .int .i64 ((-((body % 2000))) % 8)) rfl rfl thNil)))) (by kernel_rfl) (thx := [(9, .x 0), (10, .x 2), (4, .x 4), (8, .x 5)]) (thXv (v := St' (seqS (rcJ (List.replicate 512 0) (List.replicate (Int.toNat ((body % 2000))) 0) ((-((body % 2000))) % 8) 1 6) 0 24)) rfl rfl (thXv (v := St' []) rfl rfl (thXv (v := St' (List.replicate (Int.toNat ((body % 2000))) 0)) rfl rfl (thXv (v := .int .i64 ((-((body % 2000))) % 8)) rfl rfl (thNil))))) (by kernel_rfl)⟩) lfNil)) (by omega) (get_lps2 (by omega) (by omega) fi4_at) fi4_body (lfCons (lpKnown rfl ⟨1, keyL, lfOkW (l := lfw44) (h := lhw44) (List.replicate 512 0) (List.replicate (Int.toNat ((body % 2000))) 0) ((-((body % 2000))) % 8) (by first | (simp; done) | (rw [List.length_replicate]; omega)) (by first | (simp; done) | (rw [List.length_replicate]; omega)) (by omega) (by omega) 6 1 24 (by decide) (by decide) (by decide) hL6_1 lA6_1 (eA2 e6_1) rfl (by kernel_rfl) (th0 := [(0, .x 9)]) (sg0 := [(520, 500)]) (fun X => thXv (v := St' (seqS (rcJ (List.replicate 512 0) (List.replicate (Int.toNat ((body % 2000))) 0) ((-((body % 2000))) % 8) 1 6) 0 24)) rfl rfl thNil) (by kernel_rfl) (by kernel_rfl)⟩) lfNil)) rfl (get_lps (by omega)) fiB4 (fun e => run21 e ) (args := [.int .u8 n, .int .u16 body]) (by simp only [RelL, Rel]; exact ⟨_, _, rfl, rfl, ⟨_, _, rfl, rfl, rfl⟩⟩) w hl
def hy22 : LK := [(.bin .rem (.x 0) (.i .u8 (.ofNat 6)), .i .u8 (.ofNat 4)),
  (.bin .rem (.x 1) (.i .u16 (.ofNat 2000)), .x 2),
  (.conv 3 (.x 2), .x 3),
  (.zer (.x 3), .x 4),
  (.len (.x 4), .x 5),
  (.bin .gtr (.x 5) (.i .i64 (.ofNat 512)), .b true),
  (.sub (.x 4) none (some (.i .i64 (.ofNat 512))), .x 6),
  (.len (.x 6), .i .i64 (.ofNat 512)),
  (.sub (.x 4) (some (.i .i64 (.ofNat 512))) none, .x 7),
  (.len (.x 7), .x 8),
  (.bin .gtr (.x 8) (.i .i64 (.ofNat 512)), .b false),
  (.bin .neq (.x 7) (.s 0 0), .b true),
  (.mm true (.x 8) (.i .i64 (.ofNat 0)), .x 9),
  (.un .neg (.x 9), .x 10),
  (.bin .and (.x 10) (.i .i64 (.ofNat 7)), .x 11),
  (.byt (.x 12) (.i .i64 (.ofNat 0)), .x 14),
  (.len (.x 12), .x 15),
  (.fit (.x 12), .b true),
  (.bin .neq (.x 13) (.s 0 0), .b false)]
def lhd45 : LH := ⟨4, 300, 500, [(6, .b ⟨80, .l [.sl 4 0 8 8 false, .p 5 0, .s 0 0, i6 0, .nils, .b false], 0, 0, 0, false, false⟩), (4, .b ⟨81, .l [.p 29 0, .p 54 0, .p 81 0, .p 110 0, .p 141 0, .p 174 0, .nilp, .nilp], 0, 0, 0, false, false⟩), (175, .b ⟨86, .l [.nilp, .nils], 0, 0, 0, false, false⟩), (29, lnK 1 28 0 5 0 false), (54, lnK 2 53 0 5 0 false), (81, lnK 3 80 0 5 0 false), (110, lnK 4 109 0 5 0 false), (141, lnK 5 140 0 5 0 false), (174, lnK 6 173 0 5 0 false), (28, .b ⟨40, .l [i6 1, i6 1, .s 8 65792, i6 0, i6 4, i6 1, .s 0 0, i6 0, i6 5, i6 1, .x 6, i6 0, i6 5, i6 1, .x 7, .x 11, i6 5, i6 1, .s 0 0, i6 0], 20, 4, 0, false, true⟩), (53, .b ⟨40, .l [i6 1, i6 2, .s 8 65792, i6 0, i6 4, i6 2, .s 0 0, i6 0, i6 5, i6 2, .x 6, i6 0, i6 5, i6 2, .x 7, .x 11, i6 5, i6 2, .s 0 0, i6 0], 20, 4, 0, false, true⟩), (80, .b ⟨40, .l [i6 1, i6 3, .s 8 65792, i6 0, i6 4, i6 3, .s 0 0, i6 0, i6 5, i6 3, .x 6, i6 0, i6 5, i6 3, .x 7, .x 11, i6 5, i6 3, .s 0 0, i6 0], 20, 4, 0, false, true⟩), (109, .b ⟨40, .l [i6 1, i6 4, .s 8 65792, i6 0, i6 4, i6 4, .s 0 0, i6 0, i6 5, i6 4, .x 6, i6 0, i6 5, i6 4, .x 7, .x 11, i6 5, i6 4, .s 0 0, i6 0], 20, 4, 0, false, true⟩), (140, .b ⟨40, .l [i6 1, i6 5, .s 8 65792, i6 0, i6 4, i6 5, .s 0 0, i6 0, i6 5, i6 5, .x 6, i6 0, i6 5, i6 5, .x 7, .x 11, i6 5, i6 5, .s 0 0, i6 0], 20, 4, 0, false, true⟩), (173, .b ⟨40, .l [i6 1, i6 6, .s 8 65792, i6 0, i6 4, i6 6, .s 0 0, i6 0, i6 5, i6 6, .x 6, i6 0, i6 5, i6 6, .x 7, .x 11, i6 5, i6 6, .s 0 0, i6 0], 20, 4, 0, false, true⟩)], [(6, .b ⟨80, .l [.sl 4 0 8 8 false, .p 5 0, .x 13, i6 6, .nils, .b false], 0, 0, 0, false, false⟩), (4, .b ⟨81, .l [.p 302 0, .p 304 0, .p 306 0, .p 308 0, .p 310 0, .p 312 0, .nilp, .nilp], 0, 0, 0, false, false⟩), (302, lnK 1 303 20 0 5 true), (303, .b ⟨40, .l [i6 1, i6 1, .s 8 65792, i6 0, i6 4, i6 1, .s 0 0, i6 0, i6 5, i6 1, .x 6, i6 0, i6 5, i6 1, .x 7, .x 11, i6 5, i6 1, .s 0 0, i6 0], 20, 4, 0, false, true⟩), (304, lnK 2 305 20 0 5 true), (305, .b ⟨40, .l [i6 1, i6 2, .s 8 65792, i6 0, i6 4, i6 2, .s 0 0, i6 0, i6 5, i6 2, .x 6, i6 0, i6 5, i6 2, .x 7, .x 11, i6 5, i6 2, .s 0 0, i6 0], 20, 4, 0, false, true⟩), (306, lnK 3 307 20 0 5 true), (307, .b ⟨40, .l [i6 1, i6 3, .s 8 65792, i6 0, i6 4, i6 3, .s 0 0, i6 0, i6 5, i6 3, .x 6, i6 0, i6 5, i6 3, .x 7, .x 11, i6 5, i6 3, .s 0 0, i6 0], 20, 4, 0, false, true⟩), (308, lnK 4 309 20 0 5 true), (309, .b ⟨40, .l [i6 1, i6 4, .s 8 65792, i6 0, i6 4, i6 4, .s 0 0, i6 0, i6 5, i6 4, .x 6, i6 0, i6 5, i6 4, .x 7, .x 11, i6 5, i6 4, .s 0 0, i6 0], 20, 4, 0, false, true⟩), (310, lnK 5 311 20 0 5 true), (311, .b ⟨40, .l [i6 1, i6 5, .s 8 65792, i6 0, i6 4, i6 5, .s 0 0, i6 0, i6 5, i6 5, .x 6, i6 0, i6 5, i6 5, .x 7, .x 11, i6 5, i6 5, .s 0 0, i6 0], 20, 4, 0, false, true⟩), (312, lnK 6 313 20 0 5 true), (313, .b ⟨40, .l [i6 1, i6 6, .s 8 65792, i6 0, i6 4, i6 6, .s 0 0, i6 0, i6 5, i6 6, .x 6, i6 0, i6 5, i6 6, .x 7, .x 11, i6 5, i6 6, .s 0 0, i6 0], 20, 4, 0, false, true⟩), (300, .b ⟨86, .l [.p 300 0, .sy 301], 0, 0, 0, false, false⟩), (301, .t 12 5)]⟩
def lfd45 : LF := ⟨2, 47, [(0, .p 6 0), (1, i6 1000000), (5, .p 175 0)], [], .exit 0, [(5, .p 300 0)], some lhd45⟩
def lhw46 : LH := ⟨4, 520, 580, [(500, .b ⟨38, .l [i6 0, i6 0, i6 0, i6 0, i6 0, i6 0, i6 0, i6 0, i6 0], 0, 0, 0, false, false⟩)], []⟩
def lfw46 : LF := ⟨11, 91, [(5, i6 6), (6, .p 6 0), (8, .x 12), (9, .p 500 0)], [], .exit 2, [(6, .p 6 0)], some lhw46⟩
noncomputable def tab22 : Tab := addLps (addLps ({ tabk with hyp := hy22 }) 14 fi14 [lfd45]) 4 fi4 [lfw46]
theorem run22 (e : Nat) : Go.AX.okB (call tab22 9000 4 [.x 0, .x 1] ⟨H0 e , 4, 0, 0⟩) = true := by kernel_rfl
def nu22 (n : Int) (body : Int) : List Value := [.int .u8 (n),
  .int .u16 (body),
  .int .u16 (body % 2000),
  .int .i64 ((body % 2000)),
  St' (List.replicate (Int.toNat ((body % 2000))) 0),
  .int .i64 ((body % 2000)),
  St' (List.replicate (Int.toNat (512)) 0),
  St' (List.replicate (Int.toNat ((body % 2000) - 512)) 0),
  .int .i64 ((body % 2000) - 512),
  .int .i64 ((body % 2000) - 512),
  .int .i64 (512 - (body % 2000)),
  .int .i64 ((512 - (body % 2000)) % 8),
  St' (seqS (rcJ (List.replicate (Int.toNat (512)) 0) (List.replicate (Int.toNat ((body % 2000) - 512)) 0) ((512 - (body % 2000)) % 8) 2 6) 0 30),
  St' ([] : LB),
  .int .u8 (bt (seqS (rcJ (List.replicate (Int.toNat (512)) 0) (List.replicate (Int.toNat ((body % 2000) - 512)) 0) ((512 - (body % 2000)) % 8) 2 6) 0 30) 0),
  .int .i64 (((seqS (rcJ (List.replicate (Int.toNat (512)) 0) (List.replicate (Int.toNat ((body % 2000) - 512)) 0) ((512 - (body % 2000)) % 8) 2 6) 0 30).length : Int))]
theorem one22 (n : Int) (body : Int) : ∀ j, j < 1000000 → (nuL (nu22 n body) j).oneCell' = true := fun j _ => nuL_one (l := nu22 n body) rfl j
theorem path22 (n : Int) (body : Int) (b0 : 0 ≤ n) (b1 : n ≤ 255) (b2 : 0 ≤ body) (b3 : body ≤ 65535) (h0 : (n) % 6 = 4) (h1 : 512 < (body % 2000)) (h2 : ¬ (512 < (body % 2000) - 512)) (w : World) (hl : laidE w) : CwR 4 #[.int .u8 n, .int .u16 body] w (.bool true) := by
  have hout := out_bd (List.replicate (Int.toNat (512)) 0) (List.replicate (Int.toNat ((body % 2000) - 512)) 0) ((512 - (body % 2000)) % 8) (by first | (simp; done) | (rw [List.length_replicate]; omega)) (by first | (simp; done) | (rw [List.length_replicate]; omega)) (by omega) (by omega) 2 6 30 (by decide) (by decide)
  have := bt_lo (seqS (rcJ (List.replicate (Int.toNat (512)) 0) (List.replicate (Int.toNat ((body % 2000) - 512)) 0) ((512 - (body % 2000)) % 8) 2 6) 0 30) 0; have := bt_hi (seqS (rcJ (List.replicate (Int.toNat (512)) 0) (List.replicate (Int.toNat ((body % 2000) - 512)) 0) ((512 - (body % 2000)) % 8) 2 6) 0 30) 0
  have ho : ∀ k r, (k, r) ∈ hy22 → HOk (cx (nuL (nu22 n body)) (one22 n body) 1 laidE laidE_stab) k r := by
    unfold hy22
    exact hc (kRem (isX rfl) (isZ (m := 6) rfl) (denZ (m := 4) rfl) (by omega) (by omega) (by omega)) <|
     hc (kRem (isX rfl) (isZ (m := 2000) rfl) (denX rfl) (by omega) (by omega) rfl) <|
     hc (kConvF (isX rfl) tu3 (denX rfl) (fI64 (by omega) (by omega))) <|
     hc (kZer (isX rfl) (by omega) (by omega) (denX rfl)) <|
     hc (lnV rfl rfl (by first | omega | (simp <;> omega))) <|
     hc (gtcT rfl (by omega)) <|
     hc (kMidR (E := (body % 2000)) (P := 0) (Q := 512) (isX rfl) (.inl ⟨rfl, rfl⟩) (.inr ⟨_, _, rfl, (isZ (m := 512) rfl)⟩) (by omega) (by omega) (by omega) (denX (congrArg (fun k : Int => St' (List.replicate k.toNat 0)) (show (512 : Int) = 512 - (0) by omega)))) <|
     hc (kLenE (isX rfl) (denZ (m := 512) rfl) (by first | omega | (simp <;> omega))) <|
     hc (kMidR (E := (body % 2000)) (P := 512) (Q := (body % 2000)) (isX rfl) (.inr ⟨_, _, rfl, (isZ (m := 512) rfl)⟩) (.inl ⟨rfl, by first | omega | (simp <;> omega)⟩) (by omega) (by omega) (by omega) (denX (congrArg (fun k : Int => St' (List.replicate k.toNat 0)) (show ((body % 2000) - 512 : Int) = (body % 2000) - (512) by omega)))) <|
     hc (lnV rfl rfl (by first | omega | (simp <;> omega))) <|
     hc (gtcF rfl (by omega)) <|
     hc (kNeS (isX rfl) (isSx (l := ([] : LB)) 0 0 rfl) (bnT (nilF (by rw [List.length_replicate]; omega)))) <|
     hc (kMax (isX rfl) (isZ (m := 0) rfl) (denX rfl) (by omega)) <|
     hc (kNeg (isX rfl) (denX rfl) (by omega) (fI64 (by omega) (by omega))) <|
     hc (kAndG 3 8 rfl (by decide) (isX rfl) (isZ (m := 7) rfl) (denX rfl) (fI64 (by omega) (by omega)) rfl rfl (fI64 (by omega) (by omega))) <|
     hc (kByt (i := 0) (isX rfl) (isZ (m := 0) rfl) (denX rfl) rfl (by first | omega | (simp <;> omega)) rfl) <|
     hc (lnV rfl rfl (by omega)) <|
     hc (kFit (isX rfl) (by first | omega | (simp <;> omega))) <|
     hc (kNeS (isX rfl) (isSx (l := ([] : LB)) 0 0 rfl) (bnF (decide_eq_true rfl))) <|
     hnil
  exact runP (tb := tab22) (AllOk.lp1 (AllOk.lp1 ((tabkOk (nuL (nu22 n body)) (one22 n body)).hyps ho) (by omega) fi14_at fi14_body (lfCons (lpKnown rfl ⟨0, keyD, lfOkD (l := lfd45) (h := lhd45) (List.replicate (Int.toNat (512)) 0) (List.replicate (Int.toNat ((body % 2000) - 512)) 0) ((512 - (body % 2000)) % 8) (by first | (simp; done) | (rw [List.length_replicate]; omega)) (by first | (simp; done) | (rw [List.length_replicate]; omega)) (by omega) (by omega) 6 2 30 (by decide) (by decide) (by decide) (by decide) hD6_2 dA6_2 (eA1 e6_2) rfl (by kernel_rfl) (th0 := [(1, .i .i64 (.ofNat 1000000)), (2, .s 0 0), (3, .x 6), (4, .x 7), (5, .x 11)]) (sg0 := [(300, 175), (302, 29), (304, 54), (306, 81), (308, 110), (310, 141), (312, 174), (303, 28), (305, 53), (307, 80), (309, 109), (311, 140), (313, 173)]) (fun X => thCons (show Is _ (.i .i64 (.ofNat 1000000)) (.int .i64 1000000) from isI _ _) (thCons (show Is _ (.s 0 0) (St' []) from isSx (l := []) 0 0 rfl) (thXv (v := St' (List.replicate (Int.toNat (512)) 0)) rfl rfl (thXv (v := St' (List.replicate (Int.toNat ((body % 2000) - 512)) 0)) rfl rfl (thXv (v := .int .i64 ((512 - (body % 2000)) % 8)) rfl rfl thNil))))) (by kernel_rfl) (thx := [(12, .x 0), (13, .x 2), (6, .x 3), (7, .x 4), (11, .x 5)]) (thXv (v := St' (seqS (rcJ (List.replicate (Int.toNat (512)) 0) (List.replicate (Int.toNat ((body % 2000) - 512)) 0) ((512 - (body % 2000)) % 8) 2 6) 0 30)) rfl rfl (thXv (v := St' []) rfl rfl (thXv (v := St' (List.replicate (Int.toNat (512)) 0)) rfl rfl (thXv (v := St' (List.replicate (Int.toNat ((body % 2000) - 512)) 0)) rfl rfl (thXv (v := .int .i64 ((512 - (body % 2000)) % 8)) rfl rfl (thNil)))))) (by kernel_rfl)⟩) lfNil)) (by omega) (get_lps2 (by omega) (by omega) fi4_at) fi4_body (lfCons (lpKnown rfl ⟨1, keyL, lfOkW (l := lfw46) (h := lhw46) (List.replicate (Int.toNat (512)) 0) (List.replicate (Int.toNat ((body % 2000) - 512)) 0) ((512 - (body % 2000)) % 8) (by first | (simp; done) | (rw [List.length_replicate]; omega)) (by first | (simp; done) | (rw [List.length_replicate]; omega)) (by omega) (by omega) 6 2 30 (by decide) (by decide) (by decide) hL6_2 lA6_2 (eA2 e6_2) rfl (by kernel_rfl) (th0 := [(0, .x 12)]) (sg0 := [(520, 500)]) (fun X => thXv (v := St' (seqS (rcJ (List.replicate (Int.toNat (512)) 0) (List.replicate (Int.toNat ((body % 2000) - 512)) 0) ((512 - (body % 2000)) % 8) 2 6) 0 30)) rfl rfl thNil) (by kernel_rfl) (by kernel_rfl)⟩) lfNil)) rfl (get_lps (by omega)) fiB4 (fun e => run22 e ) (args := [.int .u8 n, .int .u16 body]) (by simp only [RelL, Rel]; exact ⟨_, _, rfl, rfl, ⟨_, _, rfl, rfl, rfl⟩⟩) w hl
def hy23 : LK := [(.bin .rem (.x 0) (.i .u8 (.ofNat 6)), .i .u8 (.ofNat 4)),
  (.bin .rem (.x 1) (.i .u16 (.ofNat 2000)), .x 2),
  (.conv 3 (.x 2), .x 3),
  (.zer (.x 3), .x 4),
  (.len (.x 4), .x 5),
  (.bin .gtr (.x 5) (.i .i64 (.ofNat 512)), .b true),
  (.sub (.x 4) none (some (.i .i64 (.ofNat 512))), .x 6),
  (.len (.x 6), .i .i64 (.ofNat 512)),
  (.sub (.x 4) (some (.i .i64 (.ofNat 512))) none, .x 7),
  (.len (.x 7), .x 8),
  (.bin .gtr (.x 8) (.i .i64 (.ofNat 512)), .b true),
  (.sub (.x 7) none (some (.i .i64 (.ofNat 512))), .x 6),
  (.sub (.x 7) (some (.i .i64 (.ofNat 512))) none, .x 9),
  (.len (.x 9), .x 10),
  (.bin .gtr (.x 10) (.i .i64 (.ofNat 512)), .b false),
  (.bin .neq (.x 9) (.s 0 0), .b true),
  (.mm true (.x 10) (.i .i64 (.ofNat 0)), .x 11),
  (.un .neg (.x 11), .x 12),
  (.bin .and (.x 12) (.i .i64 (.ofNat 7)), .x 13),
  (.byt (.x 14) (.i .i64 (.ofNat 0)), .x 16),
  (.len (.x 14), .x 17),
  (.fit (.x 14), .b true),
  (.bin .neq (.x 15) (.s 0 0), .b false)]
def lhd47 : LH := ⟨4, 300, 500, [(6, .b ⟨80, .l [.sl 4 0 8 8 false, .p 5 0, .s 0 0, i6 0, .nils, .b false], 0, 0, 0, false, false⟩), (4, .b ⟨81, .l [.p 32 0, .p 60 0, .p 90 0, .p 122 0, .p 156 0, .p 192 0, .nilp, .nilp], 0, 0, 0, false, false⟩), (193, .b ⟨86, .l [.nilp, .nils], 0, 0, 0, false, false⟩), (32, lnK 1 31 0 6 0 false), (60, lnK 2 59 0 6 0 false), (90, lnK 3 89 0 6 0 false), (122, lnK 4 121 0 6 0 false), (156, lnK 5 155 0 6 0 false), (192, lnK 6 191 0 6 0 false), (31, .b ⟨40, .l [i6 1, i6 1, .s 8 65792, i6 0, i6 4, i6 1, .s 0 0, i6 0, i6 5, i6 1, .x 6, i6 0, i6 5, i6 1, .x 6, i6 0, i6 5, i6 1, .x 9, .x 13, i6 5, i6 1, .s 0 0, i6 0], 24, 4, 0, false, true⟩), (59, .b ⟨40, .l [i6 1, i6 2, .s 8 65792, i6 0, i6 4, i6 2, .s 0 0, i6 0, i6 5, i6 2, .x 6, i6 0, i6 5, i6 2, .x 6, i6 0, i6 5, i6 2, .x 9, .x 13, i6 5, i6 2, .s 0 0, i6 0], 24, 4, 0, false, true⟩), (89, .b ⟨40, .l [i6 1, i6 3, .s 8 65792, i6 0, i6 4, i6 3, .s 0 0, i6 0, i6 5, i6 3, .x 6, i6 0, i6 5, i6 3, .x 6, i6 0, i6 5, i6 3, .x 9, .x 13, i6 5, i6 3, .s 0 0, i6 0], 24, 4, 0, false, true⟩), (121, .b ⟨40, .l [i6 1, i6 4, .s 8 65792, i6 0, i6 4, i6 4, .s 0 0, i6 0, i6 5, i6 4, .x 6, i6 0, i6 5, i6 4, .x 6, i6 0, i6 5, i6 4, .x 9, .x 13, i6 5, i6 4, .s 0 0, i6 0], 24, 4, 0, false, true⟩), (155, .b ⟨40, .l [i6 1, i6 5, .s 8 65792, i6 0, i6 4, i6 5, .s 0 0, i6 0, i6 5, i6 5, .x 6, i6 0, i6 5, i6 5, .x 6, i6 0, i6 5, i6 5, .x 9, .x 13, i6 5, i6 5, .s 0 0, i6 0], 24, 4, 0, false, true⟩), (191, .b ⟨40, .l [i6 1, i6 6, .s 8 65792, i6 0, i6 4, i6 6, .s 0 0, i6 0, i6 5, i6 6, .x 6, i6 0, i6 5, i6 6, .x 6, i6 0, i6 5, i6 6, .x 9, .x 13, i6 5, i6 6, .s 0 0, i6 0], 24, 4, 0, false, true⟩)], [(6, .b ⟨80, .l [.sl 4 0 8 8 false, .p 5 0, .x 15, i6 6, .nils, .b false], 0, 0, 0, false, false⟩), (4, .b ⟨81, .l [.p 302 0, .p 304 0, .p 306 0, .p 308 0, .p 310 0, .p 312 0, .nilp, .nilp], 0, 0, 0, false, false⟩), (302, lnK 1 303 24 0 6 true), (303, .b ⟨40, .l [i6 1, i6 1, .s 8 65792, i6 0, i6 4, i6 1, .s 0 0, i6 0, i6 5, i6 1, .x 6, i6 0, i6 5, i6 1, .x 6, i6 0, i6 5, i6 1, .x 9, .x 13, i6 5, i6 1, .s 0 0, i6 0], 24, 4, 0, false, true⟩), (304, lnK 2 305 24 0 6 true), (305, .b ⟨40, .l [i6 1, i6 2, .s 8 65792, i6 0, i6 4, i6 2, .s 0 0, i6 0, i6 5, i6 2, .x 6, i6 0, i6 5, i6 2, .x 6, i6 0, i6 5, i6 2, .x 9, .x 13, i6 5, i6 2, .s 0 0, i6 0], 24, 4, 0, false, true⟩), (306, lnK 3 307 24 0 6 true), (307, .b ⟨40, .l [i6 1, i6 3, .s 8 65792, i6 0, i6 4, i6 3, .s 0 0, i6 0, i6 5, i6 3, .x 6, i6 0, i6 5, i6 3, .x 6, i6 0, i6 5, i6 3, .x 9, .x 13, i6 5, i6 3, .s 0 0, i6 0], 24, 4, 0, false, true⟩), (308, lnK 4 309 24 0 6 true), (309, .b ⟨40, .l [i6 1, i6 4, .s 8 65792, i6 0, i6 4, i6 4, .s 0 0, i6 0, i6 5, i6 4, .x 6, i6 0, i6 5, i6 4, .x 6, i6 0, i6 5, i6 4, .x 9, .x 13, i6 5, i6 4, .s 0 0, i6 0], 24, 4, 0, false, true⟩), (310, lnK 5 311 24 0 6 true), (311, .b ⟨40, .l [i6 1, i6 5, .s 8 65792, i6 0, i6 4, i6 5, .s 0 0, i6 0, i6 5, i6 5, .x 6, i6 0, i6 5, i6 5, .x 6, i6 0, i6 5, i6 5, .x 9, .x 13, i6 5, i6 5, .s 0 0, i6 0], 24, 4, 0, false, true⟩), (312, lnK 6 313 24 0 6 true), (313, .b ⟨40, .l [i6 1, i6 6, .s 8 65792, i6 0, i6 4, i6 6, .s 0 0, i6 0, i6 5, i6 6, .x 6, i6 0, i6 5, i6 6, .x 6, i6 0, i6 5, i6 6, .x 9, .x 13, i6 5, i6 6, .s 0 0, i6 0], 24, 4, 0, false, true⟩), (300, .b ⟨86, .l [.p 300 0, .sy 301], 0, 0, 0, false, false⟩), (301, .t 14 5)]⟩
def lfd47 : LF := ⟨2, 47, [(0, .p 6 0), (1, i6 1000000), (5, .p 193 0)], [], .exit 0, [(5, .p 300 0)], some lhd47⟩
def lhw48 : LH := ⟨4, 520, 580, [(500, .b ⟨38, .l [i6 0, i6 0, i6 0, i6 0, i6 0, i6 0, i6 0, i6 0, i6 0], 0, 0, 0, false, false⟩)], []⟩
def lfw48 : LF := ⟨11, 91, [(5, i6 6), (6, .p 6 0), (8, .x 14), (9, .p 500 0)], [], .exit 2, [(6, .p 6 0)], some lhw48⟩
noncomputable def tab23 : Tab := addLps (addLps ({ tabk with hyp := hy23 }) 14 fi14 [lfd47]) 4 fi4 [lfw48]
theorem run23 (e : Nat) : Go.AX.okB (call tab23 9000 4 [.x 0, .x 1] ⟨H0 e , 4, 0, 0⟩) = true := by kernel_rfl
def nu23 (n : Int) (body : Int) : List Value := [.int .u8 (n),
  .int .u16 (body),
  .int .u16 (body % 2000),
  .int .i64 ((body % 2000)),
  St' (List.replicate (Int.toNat ((body % 2000))) 0),
  .int .i64 ((body % 2000)),
  St' (List.replicate (Int.toNat (512)) 0),
  St' (List.replicate (Int.toNat ((body % 2000) - 512)) 0),
  .int .i64 ((body % 2000) - 512),
  St' (List.replicate (Int.toNat ((body % 2000) - 1024)) 0),
  .int .i64 ((body % 2000) - 1024),
  .int .i64 ((body % 2000) - 1024),
  .int .i64 (1024 - (body % 2000)),
  .int .i64 ((1024 - (body % 2000)) % 8),
  St' (seqS (rcJ (List.replicate (Int.toNat (512)) 0) (List.replicate (Int.toNat ((body % 2000) - 1024)) 0) ((1024 - (body % 2000)) % 8) 3 6) 0 36),
  St' ([] : LB),
  .int .u8 (bt (seqS (rcJ (List.replicate (Int.toNat (512)) 0) (List.replicate (Int.toNat ((body % 2000) - 1024)) 0) ((1024 - (body % 2000)) % 8) 3 6) 0 36) 0),
  .int .i64 (((seqS (rcJ (List.replicate (Int.toNat (512)) 0) (List.replicate (Int.toNat ((body % 2000) - 1024)) 0) ((1024 - (body % 2000)) % 8) 3 6) 0 36).length : Int))]
theorem one23 (n : Int) (body : Int) : ∀ j, j < 1000000 → (nuL (nu23 n body) j).oneCell' = true := fun j _ => nuL_one (l := nu23 n body) rfl j
theorem path23 (n : Int) (body : Int) (b0 : 0 ≤ n) (b1 : n ≤ 255) (b2 : 0 ≤ body) (b3 : body ≤ 65535) (h0 : (n) % 6 = 4) (h1 : 512 < (body % 2000)) (h2 : 512 < (body % 2000) - 512) (h3 : ¬ (512 < (body % 2000) - 1024)) (w : World) (hl : laidE w) : CwR 4 #[.int .u8 n, .int .u16 body] w (.bool true) := by
  have hout := out_bd (List.replicate (Int.toNat (512)) 0) (List.replicate (Int.toNat ((body % 2000) - 1024)) 0) ((1024 - (body % 2000)) % 8) (by first | (simp; done) | (rw [List.length_replicate]; omega)) (by first | (simp; done) | (rw [List.length_replicate]; omega)) (by omega) (by omega) 3 6 36 (by decide) (by decide)
  have := bt_lo (seqS (rcJ (List.replicate (Int.toNat (512)) 0) (List.replicate (Int.toNat ((body % 2000) - 1024)) 0) ((1024 - (body % 2000)) % 8) 3 6) 0 36) 0; have := bt_hi (seqS (rcJ (List.replicate (Int.toNat (512)) 0) (List.replicate (Int.toNat ((body % 2000) - 1024)) 0) ((1024 - (body % 2000)) % 8) 3 6) 0 36) 0
  have ho : ∀ k r, (k, r) ∈ hy23 → HOk (cx (nuL (nu23 n body)) (one23 n body) 1 laidE laidE_stab) k r := by
    unfold hy23
    exact hc (kRem (isX rfl) (isZ (m := 6) rfl) (denZ (m := 4) rfl) (by omega) (by omega) (by omega)) <|
     hc (kRem (isX rfl) (isZ (m := 2000) rfl) (denX rfl) (by omega) (by omega) rfl) <|
     hc (kConvF (isX rfl) tu3 (denX rfl) (fI64 (by omega) (by omega))) <|
     hc (kZer (isX rfl) (by omega) (by omega) (denX rfl)) <|
     hc (lnV rfl rfl (by first | omega | (simp <;> omega))) <|
     hc (gtcT rfl (by omega)) <|
     hc (kMidR (E := (body % 2000)) (P := 0) (Q := 512) (isX rfl) (.inl ⟨rfl, rfl⟩) (.inr ⟨_, _, rfl, (isZ (m := 512) rfl)⟩) (by omega) (by omega) (by omega) (denX (congrArg (fun k : Int => St' (List.replicate k.toNat 0)) (show (512 : Int) = 512 - (0) by omega)))) <|
     hc (kLenE (isX rfl) (denZ (m := 512) rfl) (by first | omega | (simp <;> omega))) <|
     hc (kMidR (E := (body % 2000)) (P := 512) (Q := (body % 2000)) (isX rfl) (.inr ⟨_, _, rfl, (isZ (m := 512) rfl)⟩) (.inl ⟨rfl, by first | omega | (simp <;> omega)⟩) (by omega) (by omega) (by omega) (denX (congrArg (fun k : Int => St' (List.replicate k.toNat 0)) (show ((body % 2000) - 512 : Int) = (body % 2000) - (512) by omega)))) <|
     hc (lnV rfl rfl (by first | omega | (simp <;> omega))) <|
     hc (gtcT rfl (by omega)) <|
     hc (kMidR (E := (body % 2000) - 512) (P := 0) (Q := 512) (isX rfl) (.inl ⟨rfl, rfl⟩) (.inr ⟨_, _, rfl, (isZ (m := 512) rfl)⟩) (by omega) (by omega) (by omega) (denX (congrArg (fun k : Int => St' (List.replicate k.toNat 0)) (show (512 : Int) = 512 - (0) by omega)))) <|
     hc (kMidR (E := (body % 2000) - 512) (P := 512) (Q := (body % 2000) - 512) (isX rfl) (.inr ⟨_, _, rfl, (isZ (m := 512) rfl)⟩) (.inl ⟨rfl, by first | omega | (simp <;> omega)⟩) (by omega) (by omega) (by omega) (denX (congrArg (fun k : Int => St' (List.replicate k.toNat 0)) (show ((body % 2000) - 1024 : Int) = (body % 2000) - 512 - (512) by omega)))) <|
     hc (lnV rfl rfl (by first | omega | (simp <;> omega))) <|
     hc (gtcF rfl (by omega)) <|
     hc (kNeS (isX rfl) (isSx (l := ([] : LB)) 0 0 rfl) (bnT (nilF (by rw [List.length_replicate]; omega)))) <|
     hc (kMax (isX rfl) (isZ (m := 0) rfl) (denX rfl) (by omega)) <|
     hc (kNeg (isX rfl) (denX rfl) (by omega) (fI64 (by omega) (by omega))) <|
     hc (kAndG 3 8 rfl (by decide) (isX rfl) (isZ (m := 7) rfl) (denX rfl) (fI64 (by omega) (by omega)) rfl rfl (fI64 (by omega) (by omega))) <|
     hc (kByt (i := 0) (isX rfl) (isZ (m := 0) rfl) (denX rfl) rfl (by first | omega | (simp <;> omega)) rfl) <|
     hc (lnV rfl rfl (by omega)) <|
     hc (kFit (isX rfl) (by first | omega | (simp <;> omega))) <|
     hc (kNeS (isX rfl) (isSx (l := ([] : LB)) 0 0 rfl) (bnF (decide_eq_true rfl))) <|
     hnil
  exact runP (tb := tab23) (AllOk.lp1 (AllOk.lp1 ((tabkOk (nuL (nu23 n body)) (one23 n body)).hyps ho) (by omega) fi14_at fi14_body (lfCons (lpKnown rfl ⟨0, keyD, lfOkD (l := lfd47) (h := lhd47) (List.replicate (Int.toNat (512)) 0) (List.replicate (Int.toNat ((body % 2000) - 1024)) 0) ((1024 - (body % 2000)) % 8) (by first | (simp; done) | (rw [List.length_replicate]; omega)) (by first | (simp; done) | (rw [List.length_replicate]; omega)) (by omega) (by omega) 6 3 36 (by decide) (by decide) (by decide) (by decide) hD6_3 dA6_3 (eA1 e6_3) rfl (by kernel_rfl) (th0 := [(1, .i .i64 (.ofNat 1000000)), (2, .s 0 0), (3, .x 6), (4, .x 9), (5, .x 13)]) (sg0 := [(300, 193), (302, 32), (304, 60), (306, 90), (308, 122), (310, 156), (312, 192), (303, 31), (305, 59), (307, 89), (309, 121), (311, 155), (313, 191)]) (fun X => thCons (show Is _ (.i .i64 (.ofNat 1000000)) (.int .i64 1000000) from isI _ _) (thCons (show Is _ (.s 0 0) (St' []) from isSx (l := []) 0 0 rfl) (thXv (v := St' (List.replicate (Int.toNat (512)) 0)) rfl rfl (thXv (v := St' (List.replicate (Int.toNat ((body % 2000) - 1024)) 0)) rfl rfl (thXv (v := .int .i64 ((1024 - (body % 2000)) % 8)) rfl rfl thNil))))) (by kernel_rfl) (thx := [(14, .x 0), (15, .x 2), (6, .x 3), (9, .x 4), (13, .x 5)]) (thXv (v := St' (seqS (rcJ (List.replicate (Int.toNat (512)) 0) (List.replicate (Int.toNat ((body % 2000) - 1024)) 0) ((1024 - (body % 2000)) % 8) 3 6) 0 36)) rfl rfl (thXv (v := St' []) rfl rfl (thXv (v := St' (List.replicate (Int.toNat (512)) 0)) rfl rfl (thXv (v := St' (List.replicate (Int.toNat ((body % 2000) - 1024)) 0)) rfl rfl (thXv (v := .int .i64 ((1024 - (body % 2000)) % 8)) rfl rfl (thNil)))))) (by kernel_rfl)⟩) lfNil)) (by omega) (get_lps2 (by omega) (by omega) fi4_at) fi4_body (lfCons (lpKnown rfl ⟨1, keyL, lfOkW (l := lfw48) (h := lhw48) (List.replicate (Int.toNat (512)) 0) (List.replicate (Int.toNat ((body % 2000) - 1024)) 0) ((1024 - (body % 2000)) % 8) (by first | (simp; done) | (rw [List.length_replicate]; omega)) (by first | (simp; done) | (rw [List.length_replicate]; omega)) (by omega) (by omega) 6 3 36 (by decide) (by decide) (by decide) hL6_3 lA6_3 (eA2 e6_3) rfl (by kernel_rfl) (th0 := [(0, .x 14)]) (sg0 := [(520, 500)]) (fun X => thXv (v := St' (seqS (rcJ (List.replicate (Int.toNat (512)) 0) (List.replicate (Int.toNat ((body % 2000) - 1024)) 0) ((1024 - (body % 2000)) % 8) 3 6) 0 36)) rfl rfl thNil) (by kernel_rfl) (by kernel_rfl)⟩) lfNil)) rfl (get_lps (by omega)) fiB4 (fun e => run23 e ) (args := [.int .u8 n, .int .u16 body]) (by simp only [RelL, Rel]; exact ⟨_, _, rfl, rfl, ⟨_, _, rfl, rfl, rfl⟩⟩) w hl
end Go.Proofs.YtkhcgoeccmkmdaaGreatDoor.muxFair
