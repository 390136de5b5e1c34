/- A part of the proof: an interpreter of the model's own code on partly known states, and that what it answers is what the program answers. No condition of its own. -/
import Derived.Test.YtkhcgoeccmkmdaaGreatDoorM1MuxFairQ
set_option maxRecDepth 100000
set_option linter.unusedVariables false
set_option linter.unusedSimpArgs false
set_option maxHeartbeats 4000000
namespace Go.Proofs.YtkhcgoeccmkmdaaGreatDoor.muxFair
open Go Go.AX Go.Proofs Go.Proofs.YtkhcgoeccmkmdaaGreatDoor
def hy6 : LK := [(.bin .rem (.x 0) (.i .u8 (.ofNat 6)), .i .u8 (.ofNat 1)),
  (.bin .rem (.x 1) (.i .u16 (.ofNat 2000)), .x 2),
  (.conv 3 (.x 2), .x 3),
  (.zer (.x 3), .x 4),
  (.len (.x 4), .x 5),
  (.bin .gtr (.x 5) (.i .i64 (.ofNat 512)), .b false),
  (.bin .neq (.x 4) (.s 0 0), .b true),
  (.mm true (.x 5) (.i .i64 (.ofNat 0)), .x 6),
  (.un .neg (.x 6), .x 7),
  (.bin .and (.x 7) (.i .i64 (.ofNat 7)), .x 8),
  (.byt (.x 9) (.i .i64 (.ofNat 0)), .x 11),
  (.len (.x 9), .x 12),
  (.fit (.x 9), .b true),
  (.bin .neq (.x 10) (.s 0 0), .b false)]
def lhd13 : LH := ⟨4, 300, 500, [(6, .b ⟨80, .l [.sl 4 0 8 8 false, .p 5 0, .s 0 0, i6 0, .nils, .b false], 0, 0, 0, false, false⟩), (4, .b ⟨81, .l [.p 26 0, .p 48 0, .p 72 0, .nilp, .nilp, .nilp, .nilp, .nilp], 0, 0, 0, false, false⟩), (73, .b ⟨86, .l [.nilp, .nils], 0, 0, 0, false, false⟩), (26, lnK 1 25 0 4 0 false), (48, lnK 2 47 0 4 0 false), (72, lnK 3 71 0 4 0 false), (25, .b ⟨40, .l [i6 1, i6 1, .s 8 65792, i6 0, i6 4, i6 1, .s 0 0, i6 0, i6 5, i6 1, .x 4, .x 8, i6 5, i6 1, .s 0 0, i6 0], 16, 4, 0, false, true⟩), (47, .b ⟨40, .l [i6 1, i6 2, .s 8 65792, i6 0, i6 4, i6 2, .s 0 0, i6 0, i6 5, i6 2, .x 4, .x 8, i6 5, i6 2, .s 0 0, i6 0], 16, 4, 0, false, true⟩), (71, .b ⟨40, .l [i6 1, i6 3, .s 8 65792, i6 0, i6 4, i6 3, .s 0 0, i6 0, i6 5, i6 3, .x 4, .x 8, i6 5, i6 3, .s 0 0, i6 0], 16, 4, 0, false, true⟩)], [(6, .b ⟨80, .l [.sl 4 0 8 8 false, .p 5 0, .x 10, i6 3, .nils, .b false], 0, 0, 0, false, false⟩), (4, .b ⟨81, .l [.p 302 0, .p 304 0, .p 306 0, .nilp, .nilp, .nilp, .nilp, .nilp], 0, 0, 0, false, false⟩), (302, lnK 1 303 16 0 4 true), (303, .b ⟨40, .l [i6 1, i6 1, .s 8 65792, i6 0, i6 4, i6 1, .s 0 0, i6 0, i6 5, i6 1, .x 4, .x 8, i6 5, i6 1, .s 0 0, i6 0], 16, 4, 0, false, true⟩), (304, lnK 2 305 16 0 4 true), (305, .b ⟨40, .l [i6 1, i6 2, .s 8 65792, i6 0, i6 4, i6 2, .s 0 0, i6 0, i6 5, i6 2, .x 4, .x 8, i6 5, i6 2, .s 0 0, i6 0], 16, 4, 0, false, true⟩), (306, lnK 3 307 16 0 4 true), (307, .b ⟨40, .l [i6 1, i6 3, .s 8 65792, i6 0, i6 4, i6 3, .s 0 0, i6 0, i6 5, i6 3, .x 4, .x 8, i6 5, i6 3, .s 0 0, i6 0], 16, 4, 0, false, true⟩), (300, .b ⟨86, .l [.p 300 0, .sy 301], 0, 0, 0, false, false⟩), (301, .t 9 5)]⟩
def lfd13 : LF := ⟨2, 47, [(0, .p 6 0), (1, i6 1000000), (5, .p 73 0)], [], .exit 0, [(5, .p 300 0)], some lhd13⟩
def lhw14 : LH := ⟨4, 520, 580, [(500, .b ⟨38, .l [i6 0, i6 0, i6 0, i6 0, i6 0, i6 0, i6 0, i6 0, i6 0], 0, 0, 0, false, false⟩)], []⟩
def lfw14 : LF := ⟨11, 91, [(5, i6 3), (6, .p 6 0), (8, .x 9), (9, .p 500 0)], [], .exit 2, [(6, .p 6 0)], some lhw14⟩
noncomputable def tab6 : Tab := addLps (addLps ({ tabk with hyp := hy6 }) 14 fi14 [lfd13]) 4 fi4 [lfw14]
theorem run6 (e : Nat) : Go.AX.okB (call tab6 9000 4 [.x 0, .x 1] ⟨H0 e , 4, 0, 0⟩) = true := by kernel_rfl
def nu6 (n : Int) (body : Int) : List Value := [.int .u8 (n),
  .int .u16 (body),
  .int .u16 (body % 2000),
  .int .i64 ((body % 2000)),
  St' (List.replicate (Int.toNat ((body % 2000))) 0),
  .int .i64 ((body % 2000)),
  .int .i64 ((body % 2000)),
  .int .i64 (-((body % 2000))),
  .int .i64 ((-((body % 2000))) % 8),
  St' (seqS (rcJ (List.replicate 512 0) (List.replicate (Int.toNat ((body % 2000))) 0) ((-((body % 2000))) % 8) 1 3) 0 12),
  St' ([] : LB),
  .int .u8 (bt (seqS (rcJ (List.replicate 512 0) (List.replicate (Int.toNat ((body % 2000))) 0) ((-((body % 2000))) % 8) 1 3) 0 12) 0),
  .int .i64 (((seqS (rcJ (List.replicate 512 0) (List.replicate (Int.toNat ((body % 2000))) 0) ((-((body % 2000))) % 8) 1 3) 0 12).length : Int))]
theorem one6 (n : Int) (body : Int) : ∀ j, j < 1000000 → (nuL (nu6 n body) j).oneCell' = true := fun j _ => nuL_one (l := nu6 n body) rfl j
theorem path6 (n : Int) (body : Int) (b0 : 0 ≤ n) (b1 : n ≤ 255) (b2 : 0 ≤ body) (b3 : body ≤ 65535) (h0 : (n) % 6 = 1) (h1 : ¬ (512 < (body % 2000))) (h2 : ¬ ((body % 2000) = 0)) (w : World) (hl : laidE w) : CwR 4 #[.int .u8 n, .int .u16 body] w (.bool true) := by
  have hout := out_bd (List.replicate 512 0) (List.replicate (Int.toNat ((body % 2000))) 0) ((-((body % 2000))) % 8) (by first | (simp; done) | (rw [List.length_replicate]; omega)) (by first | (simp; done) | (rw [List.length_replicate]; omega)) (by omega) (by omega) 1 3 12 (by decide) (by decide)
  have := bt_lo (seqS (rcJ (List.replicate 512 0) (List.replicate (Int.toNat ((body % 2000))) 0) ((-((body % 2000))) % 8) 1 3) 0 12) 0; have := bt_hi (seqS (rcJ (List.replicate 512 0) (List.replicate (Int.toNat ((body % 2000))) 0) ((-((body % 2000))) % 8) 1 3) 0 12) 0
  have ho : ∀ k r, (k, r) ∈ hy6 → HOk (cx (nuL (nu6 n body)) (one6 n body) 1 laidE laidE_stab) k r := by
    unfold hy6
    exact hc (kRem (isX rfl) (isZ (m := 6) rfl) (denZ (m := 1) rfl) (by omega) (by omega) (by omega)) <|
     hc (kRem (isX rfl) (isZ (m := 2000) rfl) (denX rfl) (by omega) (by omega) rfl) <|
     hc (kConvF (isX rfl) tu3 (denX rfl) (fI64 (by omega) (by omega))) <|
     hc (kZer (isX rfl) (by omega) (by omega) (denX rfl)) <|
     hc (lnV rfl rfl (by first | omega | (simp <;> omega))) <|
     hc (gtcF rfl (by omega)) <|
     hc (kNeS (isX rfl) (isSx (l := ([] : LB)) 0 0 rfl) (bnT (nilF (by rw [List.length_replicate]; omega)))) <|
     hc (kMax (isX rfl) (isZ (m := 0) rfl) (denX rfl) (by omega)) <|
     hc (kNeg (isX rfl) (denX rfl) (by omega) (fI64 (by omega) (by omega))) <|
     hc (kAndG 3 8 rfl (by decide) (isX rfl) (isZ (m := 7) rfl) (denX rfl) (fI64 (by omega) (by omega)) rfl rfl (fI64 (by omega) (by omega))) <|
     hc (kByt (i := 0) (isX rfl) (isZ (m := 0) rfl) (denX rfl) rfl (by first | omega | (simp <;> omega)) rfl) <|
     hc (lnV rfl rfl (by omega)) <|
     hc (kFit (isX rfl) (by first | omega | (simp <;> omega))) <|
     hc (kNeS (isX rfl) (isSx (l := ([] : LB)) 0 0 rfl) (bnF (decide_eq_true rfl))) <|
     hnil
  exact runP (tb := tab6) (AllOk.lp1 (AllOk.lp1 ((tabkOk (nuL (nu6 n body)) (one6 n body)).hyps ho) (by omega) fi14_at fi14_body (lfCons (lpKnown rfl ⟨0, keyD, lfOkD (l := lfd13) (h := lhd13) (List.replicate 512 0) (List.replicate (Int.toNat ((body % 2000))) 0) ((-((body % 2000))) % 8) (by first | (simp; done) | (rw [List.length_replicate]; omega)) (by first | (simp; done) | (rw [List.length_replicate]; omega)) (by omega) (by omega) 3 1 12 (by decide) (by decide) (by decide) (by decide) hD3_1 dA3_1 (eA1 e3_1) rfl (by kernel_rfl) (th0 := [(1, .i .i64 (.ofNat 1000000)), (2, .s 0 0), (4, .x 4), (5, .x 8)]) (sg0 := [(300, 73), (302, 26), (304, 48), (306, 72), (303, 25), (305, 47), (307, 71)]) (fun X => thCons (show Is _ (.i .i64 (.ofNat 1000000)) (.int .i64 1000000) from isI _ _) (thCons (show Is _ (.s 0 0) (St' []) from isSx (l := []) 0 0 rfl) (thXv (v := St' (List.replicate (Int.toNat ((body % 2000))) 0)) rfl rfl (thXv (v := .int .i64 ((-((body % 2000))) % 8)) rfl rfl thNil)))) (by kernel_rfl) (thx := [(9, .x 0), (10, .x 2), (4, .x 4), (8, .x 5)]) (thXv (v := St' (seqS (rcJ (List.replicate 512 0) (List.replicate (Int.toNat ((body % 2000))) 0) ((-((body % 2000))) % 8) 1 3) 0 12)) rfl rfl (thXv (v := St' []) rfl rfl (thXv (v := St' (List.replicate (Int.toNat ((body % 2000))) 0)) rfl rfl (thXv (v := .int .i64 ((-((body % 2000))) % 8)) rfl rfl (thNil))))) (by kernel_rfl)⟩) lfNil)) (by omega) (get_lps2 (by omega) (by omega) fi4_at) fi4_body (lfCons (lpKnown rfl ⟨1, keyL, lfOkW (l := lfw14) (h := lhw14) (List.replicate 512 0) (List.replicate (Int.toNat ((body % 2000))) 0) ((-((body % 2000))) % 8) (by first | (simp; done) | (rw [List.length_replicate]; omega)) (by first | (simp; done) | (rw [List.length_replicate]; omega)) (by omega) (by omega) 3 1 12 (by decide) (by decide) (by decide) hL3_1 lA3_1 (eA2 e3_1) rfl (by kernel_rfl) (th0 := [(0, .x 9)]) (sg0 := [(520, 500)]) (fun X => thXv (v := St' (seqS (rcJ (List.replicate 512 0) (List.replicate (Int.toNat ((body % 2000))) 0) ((-((body % 2000))) % 8) 1 3) 0 12)) rfl rfl thNil) (by kernel_rfl) (by kernel_rfl)⟩) lfNil)) rfl (get_lps (by omega)) fiB4 (fun e => run6 e ) (args := [.int .u8 n, .int .u16 body]) (by simp only [RelL, Rel]; exact ⟨_, _, rfl, rfl, ⟨_, _, rfl, rfl, rfl⟩⟩) w hl
def hy7 : LK := [(.bin .rem (.x 0) (.i .u8 (.ofNat 6)), .i .u8 (.ofNat 1)),
  (.bin .rem (.x 1) (.i .u16 (.ofNat 2000)), .x 2),
  (.conv 3 (.x 2), .x 3),
  (.zer (.x 3), .x 4),
  (.len (.x 4), .x 5),
  (.bin .gtr (.x 5) (.i .i64 (.ofNat 512)), .b true),
  (.sub (.x 4) none (some (.i .i64 (.ofNat 512))), .x 6),
  (.len (.x 6), .i .i64 (.ofNat 512)),
  (.sub (.x 4) (some (.i .i64 (.ofNat 512))) none, .x 7),
  (.len (.x 7), .x 8),
  (.bin .gtr (.x 8) (.i .i64 (.ofNat 512)), .b false),
  (.bin .neq (.x 7) (.s 0 0), .b true),
  (.mm true (.x 8) (.i .i64 (.ofNat 0)), .x 9),
  (.un .neg (.x 9), .x 10),
  (.bin .and (.x 10) (.i .i64 (.ofNat 7)), .x 11),
  (.byt (.x 12) (.i .i64 (.ofNat 0)), .x 14),
  (.len (.x 12), .x 15),
  (.fit (.x 12), .b true),
  (.bin .neq (.x 13) (.s 0 0), .b false)]
def lhd15 : LH := ⟨4, 300, 500, [(6, .b ⟨80, .l [.sl 4 0 8 8 false, .p 5 0, .s 0 0, i6 0, .nils, .b false], 0, 0, 0, false, false⟩), (4, .b ⟨81, .l [.p 29 0, .p 54 0, .p 81 0, .nilp, .nilp, .nilp, .nilp, .nilp], 0, 0, 0, false, false⟩), (82, .b ⟨86, .l [.nilp, .nils], 0, 0, 0, false, false⟩), (29, lnK 1 28 0 5 0 false), (54, lnK 2 53 0 5 0 false), (81, lnK 3 80 0 5 0 false), (28, .b ⟨40, .l [i6 1, i6 1, .s 8 65792, i6 0, i6 4, i6 1, .s 0 0, i6 0, i6 5, i6 1, .x 6, i6 0, i6 5, i6 1, .x 7, .x 11, i6 5, i6 1, .s 0 0, i6 0], 20, 4, 0, false, true⟩), (53, .b ⟨40, .l [i6 1, i6 2, .s 8 65792, i6 0, i6 4, i6 2, .s 0 0, i6 0, i6 5, i6 2, .x 6, i6 0, i6 5, i6 2, .x 7, .x 11, i6 5, i6 2, .s 0 0, i6 0], 20, 4, 0, false, true⟩), (80, .b ⟨40, .l [i6 1, i6 3, .s 8 65792, i6 0, i6 4, i6 3, .s 0 0, i6 0, i6 5, i6 3, .x 6, i6 0, i6 5, i6 3, .x 7, .x 11, i6 5, i6 3, .s 0 0, i6 0], 20, 4, 0, false, true⟩)], [(6, .b ⟨80, .l [.sl 4 0 8 8 false, .p 5 0, .x 13, i6 3, .nils, .b false], 0, 0, 0, false, false⟩), (4, .b ⟨81, .l [.p 302 0, .p 304 0, .p 306 0, .nilp, .nilp, .nilp, .nilp, .nilp], 0, 0, 0, false, false⟩), (302, lnK 1 303 20 0 5 true), (303, .b ⟨40, .l [i6 1, i6 1, .s 8 65792, i6 0, i6 4, i6 1, .s 0 0, i6 0, i6 5, i6 1, .x 6, i6 0, i6 5, i6 1, .x 7, .x 11, i6 5, i6 1, .s 0 0, i6 0], 20, 4, 0, false, true⟩), (304, lnK 2 305 20 0 5 true), (305, .b ⟨40, .l [i6 1, i6 2, .s 8 65792, i6 0, i6 4, i6 2, .s 0 0, i6 0, i6 5, i6 2, .x 6, i6 0, i6 5, i6 2, .x 7, .x 11, i6 5, i6 2, .s 0 0, i6 0], 20, 4, 0, false, true⟩), (306, lnK 3 307 20 0 5 true), (307, .b ⟨40, .l [i6 1, i6 3, .s 8 65792, i6 0, i6 4, i6 3, .s 0 0, i6 0, i6 5, i6 3, .x 6, i6 0, i6 5, i6 3, .x 7, .x 11, i6 5, i6 3, .s 0 0, i6 0], 20, 4, 0, false, true⟩), (300, .b ⟨86, .l [.p 300 0, .sy 301], 0, 0, 0, false, false⟩), (301, .t 12 5)]⟩
def lfd15 : LF := ⟨2, 47, [(0, .p 6 0), (1, i6 1000000), (5, .p 82 0)], [], .exit 0, [(5, .p 300 0)], some lhd15⟩
def lhw16 : LH := ⟨4, 520, 580, [(500, .b ⟨38, .l [i6 0, i6 0, i6 0, i6 0, i6 0, i6 0, i6 0, i6 0, i6 0], 0, 0, 0, false, false⟩)], []⟩
def lfw16 : LF := ⟨11, 91, [(5, i6 3), (6, .p 6 0), (8, .x 12), (9, .p 500 0)], [], .exit 2, [(6, .p 6 0)], some lhw16⟩
noncomputable def tab7 : Tab := addLps (addLps ({ tabk with hyp := hy7 }) 14 fi14 [lfd15]) 4 fi4 [lfw16]
theorem run7 (e : Nat) : Go.AX.okB (call tab7 9000 4 [.x 0, .x 1] ⟨H0 e , 4, 0, 0⟩) = true := by kernel_rfl
def nu7 (n : Int) (body : Int) : List Value := [.int .u8 (n),
  .int .u16 (body),
  .int .u16 (body % 2000),
  .int .i64 ((body % 2000)),
  St' (List.replicate (Int.toNat ((body % 2000))) 0),
  .int .i64 ((body % 2000)),
  St' (List.replicate (Int.toNat (512)) 0),
  St' (List.replicate (Int.toNat ((body % 2000) - 512)) 0),
  .int .i64 ((body % 2000) - 512),
  .int .i64 ((body % 2000) - 512),
  .int .i64 (512 - (body % 2000)),
  .int .i64 ((512 - (body % 2000)) % 8),
  St' (seqS (rcJ (List.replicate (Int.toNat (512)) 0) (List.replicate (Int.toNat ((body % 2000) - 512)) 0) ((512 - (body % 2000)) % 8) 2 3) 0 15),
  St' ([] : LB),
  .int .u8 (bt (seqS (rcJ (List.replicate (Int.toNat (512)) 0) (List.replicate (Int.toNat ((body % 2000) - 512)) 0) ((512 - (body % 2000)) % 8) 2 3) 0 15) 0),
  .int .i64 (((seqS (rcJ (List.replicate (Int.toNat (512)) 0) (List.replicate (Int.toNat ((body % 2000) - 512)) 0) ((512 - (body % 2000)) % 8) 2 3) 0 15).length : Int))]
theorem one7 (n : Int) (body : Int) : ∀ j, j < 1000000 → (nuL (nu7 n body) j).oneCell' = true := fun j _ => nuL_one (l := nu7 n body) rfl j
theorem path7 (n : Int) (body : Int) (b0 : 0 ≤ n) (b1 : n ≤ 255) (b2 : 0 ≤ body) (b3 : body ≤ 65535) (h0 : (n) % 6 = 1) (h1 : 512 < (body % 2000)) (h2 : ¬ (512 < (body % 2000) - 512)) (w : World) (hl : laidE w) : CwR 4 #[.int .u8 n, .int .u16 body] w (.bool true) := by
  have hout := out_bd (List.replicate (Int.toNat (512)) 0) (List.replicate (Int.toNat ((body % 2000) - 512)) 0) ((512 - (body % 2000)) % 8) (by first | (simp; done) | (rw [List.length_replicate]; omega)) (by first | (simp; done) | (rw [List.length_replicate]; omega)) (by omega) (by omega) 2 3 15 (by decide) (by decide)
  have := bt_lo (seqS (rcJ (List.replicate (Int.toNat (512)) 0) (List.replicate (Int.toNat ((body % 2000) - 512)) 0) ((512 - (body % 2000)) % 8) 2 3) 0 15) 0; have := bt_hi (seqS (rcJ (List.replicate (Int.toNat (512)) 0) (List.replicate (Int.toNat ((body % 2000) - 512)) 0) ((512 - (body % 2000)) % 8) 2 3) 0 15) 0
  have ho : ∀ k r, (k, r) ∈ hy7 → HOk (cx (nuL (nu7 n body)) (one7 n body) 1 laidE laidE_stab) k r := by
    unfold hy7
    exact hc (kRem (isX rfl) (isZ (m := 6) rfl) (denZ (m := 1) rfl) (by omega) (by omega) (by omega)) <|
     hc (kRem (isX rfl) (isZ (m := 2000) rfl) (denX rfl) (by omega) (by omega) rfl) <|
     hc (kConvF (isX rfl) tu3 (denX rfl) (fI64 (by omega) (by omega))) <|
     hc (kZer (isX rfl) (by omega) (by omega) (denX rfl)) <|
     hc (lnV rfl rfl (by first | omega | (simp <;> omega))) <|
     hc (gtcT rfl (by omega)) <|
     hc (kMidR (E := (body % 2000)) (P := 0) (Q := 512) (isX rfl) (.inl ⟨rfl, rfl⟩) (.inr ⟨_, _, rfl, (isZ (m := 512) rfl)⟩) (by omega) (by omega) (by omega) (denX (congrArg (fun k : Int => St' (List.replicate k.toNat 0)) (show (512 : Int) = 512 - (0) by omega)))) <|
     hc (kLenE (isX rfl) (denZ (m := 512) rfl) (by first | omega | (simp <;> omega))) <|
     hc (kMidR (E := (body % 2000)) (P := 512) (Q := (body % 2000)) (isX rfl) (.inr ⟨_, _, rfl, (isZ (m := 512) rfl)⟩) (.inl ⟨rfl, by first | omega | (simp <;> omega)⟩) (by omega) (by omega) (by omega) (denX (congrArg (fun k : Int => St' (List.replicate k.toNat 0)) (show ((body % 2000) - 512 : Int) = (body % 2000) - (512) by omega)))) <|
     hc (lnV rfl rfl (by first | omega | (simp <;> omega))) <|
     hc (gtcF rfl (by omega)) <|
     hc (kNeS (isX rfl) (isSx (l := ([] : LB)) 0 0 rfl) (bnT (nilF (by rw [List.length_replicate]; omega)))) <|
     hc (kMax (isX rfl) (isZ (m := 0) rfl) (denX rfl) (by omega)) <|
     hc (kNeg (isX rfl) (denX rfl) (by omega) (fI64 (by omega) (by omega))) <|
     hc (kAndG 3 8 rfl (by decide) (isX rfl) (isZ (m := 7) rfl) (denX rfl) (fI64 (by omega) (by omega)) rfl rfl (fI64 (by omega) (by omega))) <|
     hc (kByt (i := 0) (isX rfl) (isZ (m := 0) rfl) (denX rfl) rfl (by first | omega | (simp <;> omega)) rfl) <|
     hc (lnV rfl rfl (by omega)) <|
     hc (kFit (isX rfl) (by first | omega | (simp <;> omega))) <|
     hc (kNeS (isX rfl) (isSx (l := ([] : LB)) 0 0 rfl) (bnF (decide_eq_true rfl))) <|
     hnil
  exact runP (tb := tab7) (AllOk.lp1 (AllOk.lp1 ((tabkOk (nuL (nu7 n body)) (one7 n body)).hyps ho) (by omega) fi14_at fi14_body (lfCons (lpKnown rfl ⟨0, keyD, lfOkD (l := lfd15) (h := lhd15) (List.replicate (Int.toNat (512)) 0) (List.replicate (Int.toNat ((body % 2000) - 512)) 0) ((512 - (body % 2000)) % 8) (by first | (simp; done) | (rw [List.length_replicate]; omega)) (by first | (simp; done) | (rw [List.length_replicate]; omega)) (by omega) (by omega) 3 2 15 (by decide) (by decide) (by decide) (by decide) hD3_2 dA3_2 (eA1 e3_2) rfl (by kernel_rfl) (th0 := [(1, .i .i64 (.ofNat 1000000)), (2, .s 0 0), (3, .x 6), (4, .x 7), (5, .x 11)]) (sg0 := [(300, 82), (302, 29), (304, 54), (306, 81), (303, 28), (305, 53), (307, 80)]) (fun X => thCons (show Is _ (.i .i64 (.ofNat 1000000)) (.int .i64 1000000) from isI _ _) (thCons (show Is _ (.s 0 0) (St' []) from isSx (l := []) 0 0 rfl) (thXv (v := St' (List.replicate (Int.toNat (512)) 0)) rfl rfl (thXv (v := St' (List.replicate (Int.toNat ((body % 2000) - 512)) 0)) rfl rfl (thXv (v := .int .i64 ((512 - (body % 2000)) % 8)) rfl rfl thNil))))) (by kernel_rfl) (thx := [(12, .x 0), (13, .x 2), (6, .x 3), (7, .x 4), (11, .x 5)]) (thXv (v := St' (seqS (rcJ (List.replicate (Int.toNat (512)) 0) (List.replicate (Int.toNat ((body % 2000) - 512)) 0) ((512 - (body % 2000)) % 8) 2 3) 0 15)) rfl rfl (thXv (v := St' []) rfl rfl (thXv (v := St' (List.replicate (Int.toNat (512)) 0)) rfl rfl (thXv (v := St' (List.replicate (Int.toNat ((body % 2000) - 512)) 0)) rfl rfl (thXv (v := .int .i64 ((512 - (body % 2000)) % 8)) rfl rfl (thNil)))))) (by kernel_rfl)⟩) lfNil)) (by omega) (get_lps2 (by omega) (by omega) fi4_at) fi4_body (lfCons (lpKnown rfl ⟨1, keyL, lfOkW (l := lfw16) (h := lhw16) (List.replicate (Int.toNat (512)) 0) (List.replicate (Int.toNat ((body % 2000) - 512)) 0) ((512 - (body % 2000)) % 8) (by first | (simp; done) | (rw [List.length_replicate]; omega)) (by first | (simp; done) | (rw [List.length_replicate]; omega)) (by omega) (by omega) 3 2 15 (by decide) (by decide) (by decide) hL3_2 lA3_2 (eA2 e3_2) rfl (by kernel_rfl) (th0 := [(0, .x 12)]) (sg0 := [(520, 500)]) (fun X => thXv (v := St' (seqS (rcJ (List.replicate (Int.toNat (512)) 0) (List.replicate (Int.toNat ((body % 2000) - 512)) 0) ((512 - (body % 2000)) % 8) 2 3) 0 15)) rfl rfl thNil) (by kernel_rfl) (by kernel_rfl)⟩) lfNil)) rfl (get_lps (by omega)) fiB4 (fun e => run7 e ) (args := [.int .u8 n, .int .u16 body]) (by simp only [RelL, Rel]; exact ⟨_, _, rfl, rfl, ⟨_, _, rfl, rfl, rfl⟩⟩) w hl
def hy8 : LK := [(.bin .rem (.x 0) (.i .u8 (.ofNat 6)), .i .u8 (.ofNat 1)),
  (.bin .rem (.x 1) (.i .u16 (.ofNat 2000)), .x 2),
  (.conv 3 (.x 2), .x 3),
  (.zer (.x 3), .x 4),
  (.len (.x 4), .x 5),
  (.bin .gtr (.x 5) (.i .i64 (.ofNat 512)), .b true),
  (.sub (.x 4) none (some (.i .i64 (.ofNat 512))), .x 6),
  (.len (.x 6), .i .i64 (.ofNat 512)),
  (.sub (.x 4) (some (.i .i64 (.ofNat 512))) none, .x 7),
  (.len (.x 7), .x 8),
  (.bin .gtr (.x 8) (.i .i64 (.ofNat 512)), .b true),
  (.sub (.x 7) none (some (.i .i64 (.ofNat 512))), .x 6),
  (.sub (.x 7) (some (.i .i64 (.ofNat 512))) none, .x 9),
  (.len (.x 9), .x 10),
  (.bin .gtr (.x 10) (.i .i64 (.ofNat 512)), .b false),
  (.bin .neq (.x 9) (.s 0 0), .b true),
  (.mm true (.x 10) (.i .i64 (.ofNat 0)), .x 11),
  (.un .neg (.x 11), .x 12),
  (.bin .and (.x 12) (.i .i64 (.ofNat 7)), .x 13),
  (.byt (.x 14) (.i .i64 (.ofNat 0)), .x 16),
  (.len (.x 14), .x 17),
  (.fit (.x 14), .b true),
  (.bin .neq (.x 15) (.s 0 0), .b false)]
def lhd17 : LH := ⟨4, 300, 500, [(6, .b ⟨80, .l [.sl 4 0 8 8 false, .p 5 0, .s 0 0, i6 0, .nils, .b false], 0, 0, 0, false, false⟩), (4, .b ⟨81, .l [.p 32 0, .p 60 0, .p 90 0, .nilp, .nilp, .nilp, .nilp, .nilp], 0, 0, 0, false, false⟩), (91, .b ⟨86, .l [.nilp, .nils], 0, 0, 0, false, false⟩), (32, lnK 1 31 0 6 0 false), (60, lnK 2 59 0 6 0 false), (90, lnK 3 89 0 6 0 false), (31, .b ⟨40, .l [i6 1, i6 1, .s 8 65792, i6 0, i6 4, i6 1, .s 0 0, i6 0, i6 5, i6 1, .x 6, i6 0, i6 5, i6 1, .x 6, i6 0, i6 5, i6 1, .x 9, .x 13, i6 5, i6 1, .s 0 0, i6 0], 24, 4, 0, false, true⟩), (59, .b ⟨40, .l [i6 1, i6 2, .s 8 65792, i6 0, i6 4, i6 2, .s 0 0, i6 0, i6 5, i6 2, .x 6, i6 0, i6 5, i6 2, .x 6, i6 0, i6 5, i6 2, .x 9, .x 13, i6 5, i6 2, .s 0 0, i6 0], 24, 4, 0, false, true⟩), (89, .b ⟨40, .l [i6 1, i6 3, .s 8 65792, i6 0, i6 4, i6 3, .s 0 0, i6 0, i6 5, i6 3, .x 6, i6 0, i6 5, i6 3, .x 6, i6 0, i6 5, i6 3, .x 9, .x 13, i6 5, i6 3, .s 0 0, i6 0], 24, 4, 0, false, true⟩)], [(6, .b ⟨80, .l [.sl 4 0 8 8 false, .p 5 0, .x 15, i6 3, .nils, .b false], 0, 0, 0, false, false⟩), (4, .b ⟨81, .l [.p 302 0, .p 304 0, .p 306 0, .nilp, .nilp, .nilp, .nilp, .nilp], 0, 0, 0, false, false⟩), (302, lnK 1 303 24 0 6 true), (303, .b ⟨40, .l [i6 1, i6 1, .s 8 65792, i6 0, i6 4, i6 1, .s 0 0, i6 0, i6 5, i6 1, .x 6, i6 0, i6 5, i6 1, .x 6, i6 0, i6 5, i6 1, .x 9, .x 13, i6 5, i6 1, .s 0 0, i6 0], 24, 4, 0, false, true⟩), (304, lnK 2 305 24 0 6 true), (305, .b ⟨40, .l [i6 1, i6 2, .s 8 65792, i6 0, i6 4, i6 2, .s 0 0, i6 0, i6 5, i6 2, .x 6, i6 0, i6 5, i6 2, .x 6, i6 0, i6 5, i6 2, .x 9, .x 13, i6 5, i6 2, .s 0 0, i6 0], 24, 4, 0, false, true⟩), (306, lnK 3 307 24 0 6 true), (307, .b ⟨40, .l [i6 1, i6 3, .s 8 65792, i6 0, i6 4, i6 3, .s 0 0, i6 0, i6 5, i6 3, .x 6, i6 0, i6 5, i6 3, .x 6, i6 0, i6 5, i6 3, .x 9, .x 13, i6 5, i6 3, .s 0 0, i6 0], 24, 4, 0, false, true⟩), (300, .b ⟨86, .l [.p 300 0, .sy 301], 0, 0, 0, false, false⟩), (301, .t 14 5)]⟩
def lfd17 : LF := ⟨2, 47, [(0, .p 6 0), (1, i6 1000000), (5, .p 91 0)], [], .exit 0, [(5, .p 300 0)], some lhd17⟩
def lhw18 : LH := ⟨4, 520, 580, [(500, .b ⟨38, .l [i6 0, i6 0, i6 0, i6 0, i6 0, i6 0, i6 0, i6 0, i6 0], 0, 0, 0, false, false⟩)], []⟩
def lfw18 : LF := ⟨11, 91, [(5, i6 3), (6, .p 6 0), (8, .x 14), (9, .p 500 0)], [], .exit 2, [(6, .p 6 0)], some lhw18⟩
noncomputable def tab8 : Tab := addLps (addLps ({ tabk with hyp := hy8 }) 14 fi14 [lfd17]) 4 fi4 [lfw18]
theorem run8 (e : Nat) : Go.AX.okB (call tab8 9000 4 [.x 0, .x 1] ⟨H0 e , 4, 0, 0⟩) = true := by kernel_rfl
def nu8 (n : Int) (body : Int) : List Value := [.int .u8 (n),
  .int .u16 (body),
  .int .u16 (body % 2000),
  .int .i64 ((body % 2000)),
  St' (List.replicate (Int.toNat ((body % 2000))) 0),
  .int .i64 ((body % 2000)),
  St' (List.replicate (Int.toNat (512)) 0),
  St' (List.replicate (Int.toNat ((body % 2000) - 512)) 0),
  .int .i64 ((body % 2000) - 512),
  St' (List.replicate (Int.toNat ((body % 2000) - 1024)) 0),
  .int .i64 ((body % 2000) - 1024),
  .int .i64 ((body % 2000) - 1024),
  .int .i64 (1024 - (body % 2000)),
  .int .i64 ((1024 - (body % 2000)) % 8),
  St' (seqS (rcJ (List.replicate (Int.toNat (512)) 0) (List.replicate (Int.toNat ((body % 2000) - 1024)) 0) ((1024 - (body % 2000)) % 8) 3 3) 0 18),
  St' ([] : LB),
  .int .u8 (bt (seqS (rcJ (List.replicate (Int.toNat (512)) 0) (List.replicate (Int.toNat ((body % 2000) - 1024)) 0) ((1024 - (body % 2000)) % 8) 3 3) 0 18) 0),
  .int .i64 (((seqS (rcJ (List.replicate (Int.toNat (512)) 0) (List.replicate (Int.toNat ((body % 2000) - 1024)) 0) ((1024 - (body % 2000)) % 8) 3 3) 0 18).length : Int))]
theorem one8 (n : Int) (body : Int) : ∀ j, j < 1000000 → (nuL (nu8 n body) j).oneCell' = true := fun j _ => nuL_one (l := nu8 n body) rfl j
theorem path8 (n : Int) (body : Int) (b0 : 0 ≤ n) (b1 : n ≤ 255) (b2 : 0 ≤ body) (b3 : body ≤ 65535) (h0 : (n) % 6 = 1) (h1 : 512 < (body % 2000)) (h2 : 512 < (body % 2000) - 512) (h3 : ¬ (512 < (body % 2000) - 1024)) (w : World) (hl : laidE w) : CwR 4 #[.int .u8 n, .int .u16 body] w (.bool true) := by
  have hout := out_bd (List.replicate (Int.toNat (512)) 0) (List.replicate (Int.toNat ((body % 2000) - 1024)) 0) ((1024 - (body % 2000)) % 8) (by first | (simp; done) | (rw [List.length_replicate]; omega)) (by first | (simp; done) | (rw [List.length_replicate]; omega)) (by omega) (by omega) 3 3 18 (by decide) (by decide)
  have := bt_lo (seqS (rcJ (List.replicate (Int.toNat (512)) 0) (List.replicate (Int.toNat ((body % 2000) - 1024)) 0) ((1024 - (body % 2000)) % 8) 3 3) 0 18) 0; have := bt_hi (seqS (rcJ (List.replicate (Int.toNat (512)) 0) (List.replicate (Int.toNat ((body % 2000) - 1024)) 0) ((1024 - (body % 2000)) % 8) 3 3) 0 18) 0
  have ho : ∀ k r, (k, r) ∈ hy8 → HOk (cx (nuL (nu8 n body)) (one8 n body) 1 laidE laidE_stab) k r := by
    unfold hy8
    exact hc (kRem (isX rfl) (isZ (m := 6) rfl) (denZ (m := 1) rfl) (by omega) (by omega) (by omega)) <|
     hc (kRem (isX rfl) (isZ (m := 2000) rfl) (denX rfl) (by omega) (by omega) rfl) <|
     hc (kConvF (isX rfl) tu3 (denX rfl) (fI64 (by omega) (by omega))) <|
     hc (kZer (isX rfl) (by omega) (by omega) (denX rfl)) <|
     hc (lnV rfl rfl (by first | omega | (simp <;> omega))) <|
     hc (gtcT rfl (by omega)) <|
     hc (kMidR (E := (body % 2000)) (P := 0) (Q := 512) (isX rfl) (.inl ⟨rfl, rfl⟩) (.inr ⟨_, _, rfl, (isZ (m := 512) rfl)⟩) (by omega) (by omega) (by omega) (denX (congrArg (fun k : Int => St' (List.replicate k.toNat 0)) (show (512 : Int) = 512 - (0) by omega)))) <|
     hc (kLenE (isX rfl) (denZ (m := 512) rfl) (by first | omega | (simp <;> omega))) <|
     hc (kMidR (E := (body % 2000)) (P := 512) (Q := (body % 2000)) (isX rfl) (.inr ⟨_, _, rfl, (isZ (m := 512) rfl)⟩) (.inl ⟨rfl, by first | omega | (simp <;> omega)⟩) (by omega) (by omega) (by omega) (denX (congrArg (fun k : Int => St' (List.replicate k.toNat 0)) (show ((body % 2000) - 512 : Int) = (body % 2000) - (512) by omega)))) <|
     hc (lnV rfl rfl (by first | omega | (simp <;> omega))) <|
     hc (gtcT rfl (by omega)) <|
     hc (kMidR (E := (body % 2000) - 512) (P := 0) (Q := 512) (isX rfl) (.inl ⟨rfl, rfl⟩) (.inr ⟨_, _, rfl, (isZ (m := 512) rfl)⟩) (by omega) (by omega) (by omega) (denX (congrArg (fun k : Int => St' (List.replicate k.toNat 0)) (show (512 : Int) = 512 - (0) by omega)))) <|
     hc (kMidR (E := (body % 2000) - 512) (P := 512) (Q := (body % 2000) - 512) (isX rfl) (.inr ⟨_, _, rfl, (isZ (m := 512) rfl)⟩) (.inl ⟨rfl, by first | omega | (simp <;> omega)⟩) (by omega) (by omega) (by omega) (denX (congrArg (fun k : Int => St' (List.replicate k.toNat 0)) (show ((body % 2000) - 1024 : Int) = (body % 2000) - 512 - (512) by omega)))) <|
     hc (lnV rfl rfl (by first | omega | (simp <;> omega))) <|
     hc (gtcF rfl (by omega)) <|
     hc (kNeS (isX rfl) (isSx (l := ([] : LB)) 0 0 rfl) (bnT (nilF (by rw [List.length_replicate]; omega)))) <|
     hc (kMax (isX rfl) (isZ (m := 0) rfl) (denX rfl) (by omega)) <|
     hc (kNeg (isX rfl) (denX rfl) (by omega) (fI64 (by omega) (by omega))) <|
     hc (kAndG 3 8 rfl (by decide) (isX rfl) (isZ (m := 7) rfl) (denX rfl) (fI64 (by omega) (by omega)) rfl rfl (fI64 (by omega) (by omega))) <|
     hc (kByt (i := 0) (isX rfl) (isZ (m := 0) rfl) (denX rfl) rfl (by first | omega | (simp <;> omega)) rfl) <|
     hc (lnV rfl rfl (by omega)) <|
     hc (kFit (isX rfl) (by first | omega | (simp <;> omega))) <|
     hc (kNeS (isX rfl) (isSx (l := ([] : LB)) 0 0 rfl) (bnF (decide_eq_true rfl))) <|
     hnil
  exact runP (tb := tab8) (AllOk.lp1 (AllOk.lp1 ((tabkOk (nuL (nu8 n body)) (one8 n body)).hyps ho) (by omega) fi14_at fi14_body (lfCons (lpKnown rfl ⟨0, keyD, lfOkD (l := lfd17) (h := lhd17) (List.replicate (Int.toNat (512)) 0) (List.replicate (Int.toNat ((body % 2000) - 1024)) 0) ((1024 - (body % 2000)) % 8) (by first | (simp; done) | (rw [List.length_replicate]; omega)) (by first | (simp; done) | (rw [List.length_replicate]; omega)) (by omega) (by omega) 3 3 18 (by decide) (by decide) (by decide) (by decide) hD3_3 dA3_3 (eA1 e3_3) rfl (by kernel_rfl) (th0 := [(1, .i .i64 (.ofNat 1000000)), (2, .s 0 0), (3, .x 6), (4, .x 9), (5, .x 13)]) (sg0 := [(300, 91), (302, 32), (304, 60), (306, 90), (303, 31), (305, 59), (307, 89)]) (fun X => thCons (show Is _ (.i .i64 (.ofNat 1000000)) (.int .i64 1000000) from isI _ _) (thCons (show Is _ (.s 0 0) (St' []) from isSx (l := []) 0 0 rfl) (thXv (v := St' (List.replicate (Int.toNat (512)) 0)) rfl rfl (thXv (v := St' (List.replicate (Int.toNat ((body % 2000) - 1024)) 0)) rfl rfl (thXv (v := .int .i64 ((1024 - (body % 2000)) % 8)) rfl rfl thNil))))) (by kernel_rfl) (thx := [(14, .x 0), (15, .x 2), (6, .x 3), (9, .x 4), (13, .x 5)]) (thXv (v := St' (seqS (rcJ (List.replicate (Int.toNat (512)) 0) (List.replicate (Int.toNat ((body % 2000) - 1024)) 0) ((1024 - (body % 2000)) % 8) 3 3) 0 18)) rfl rfl (thXv (v := St' []) rfl rfl (thXv (v := St' (List.replicate (Int.toNat (512)) 0)) rfl rfl (thXv (v := St' (List.replicate (Int.toNat ((body % 2000) - 1024)) 0)) rfl rfl (thXv (v := .int .i64 ((1024 - (body % 2000)) % 8)) rfl rfl (thNil)))))) (by kernel_rfl)⟩) lfNil)) (by omega) (get_lps2 (by omega) (by omega) fi4_at) fi4_body (lfCons (lpKnown rfl ⟨1, keyL, lfOkW (l := lfw18) (h := lhw18) (List.replicate (Int.toNat (512)) 0) (List.replicate (Int.toNat ((body % 2000) - 1024)) 0) ((1024 - (body % 2000)) % 8) (by first | (simp; done) | (rw [List.length_replicate]; omega)) (by first | (simp; done) | (rw [List.length_replicate]; omega)) (by omega) (by omega) 3 3 18 (by decide) (by decide) (by decide) hL3_3 lA3_3 (eA2 e3_3) rfl (by kernel_rfl) (th0 := [(0, .x 14)]) (sg0 := [(520, 500)]) (fun X => thXv (v := St' (seqS (rcJ (List.replicate (Int.toNat (512)) 0) (List.replicate (Int.toNat ((body % 2000) - 1024)) 0) ((1024 - (body % 2000)) % 8) 3 3) 0 18)) rfl rfl thNil) (by kernel_rfl) (by kernel_rfl)⟩) lfNil)) rfl (get_lps (by omega)) fiB4 (fun e => run8 e ) (args := [.int .u8 n, .int .u16 body]) (by simp only [RelL, Rel]; exact ⟨_, _, rfl, rfl, ⟨_, _, rfl, rfl, rfl⟩⟩) w hl
end Go.Proofs.YtkhcgoeccmkmdaaGreatDoor.muxFair
