/- A part of the proof: an interpreter of the model's own code on partly known states, and that what it answers is what the program answers. No condition of its own. -/
import Derived.Test.YtkhcgoeccmkmdaaGreatDoorM1MuxFairQ
set_option maxRecDepth 100000
set_option linter.unusedVariables false
set_option linter.unusedSimpArgs false
set_option maxHeartbeats 4000000
namespace Go.Proofs.YtkhcgoeccmkmdaaGreatDoor.muxFair
open Go Go.AX Go.Proofs Go.Proofs.YtkhcgoeccmkmdaaGreatDoor
def hy0 : LK := [(.bin .rem (.x 0) (.i .u8 (.ofNat 6)), .i .u8 (.ofNat 0)),
  (.bin .rem (.x 1) (.i .u16 (.ofNat 2000)), .x 2),
  (.conv 3 (.x 2), .x 3),
  (.zer (.x 3), .x 4),
  (.len (.x 4), .x 5),
  (.bin .gtr (.x 5) (.i .i64 (.ofNat 512)), .b false),
  (.bin .neq (.x 4) (.s 0 0), .b false),
  (.byt (.x 6) (.i .i64 (.ofNat 0)), .x 8),
  (.len (.x 6), .x 9),
  (.fit (.x 6), .b true),
  (.bin .neq (.x 7) (.s 0 0), .b false)]
def lhd1 : LH := ⟨4, 300, 500, [(6, .b ⟨80, .l [.sl 4 0 8 8 false, .p 5 0, .s 0 0, i6 0, .nils, .b false], 0, 0, 0, false, false⟩), (4, .b ⟨81, .l [.p 23 0, .p 42 0, .nilp, .nilp, .nilp, .nilp, .nilp, .nilp], 0, 0, 0, false, false⟩), (43, .b ⟨86, .l [.nilp, .nils], 0, 0, 0, false, false⟩), (23, lnK 1 22 0 3 0 false), (42, lnK 2 41 0 3 0 false), (22, .b ⟨40, .l [i6 1, i6 1, .s 8 65792, i6 0, i6 4, i6 1, .s 0 0, i6 0, i6 5, i6 1, .s 0 0, i6 0], 12, 4, 0, false, true⟩), (41, .b ⟨40, .l [i6 1, i6 2, .s 8 65792, i6 0, i6 4, i6 2, .s 0 0, i6 0, i6 5, i6 2, .s 0 0, i6 0], 12, 4, 0, false, true⟩)], [(6, .b ⟨80, .l [.sl 4 0 8 8 false, .p 5 0, .x 7, i6 2, .nils, .b false], 0, 0, 0, false, false⟩), (4, .b ⟨81, .l [.p 302 0, .p 304 0, .nilp, .nilp, .nilp, .nilp, .nilp, .nilp], 0, 0, 0, false, false⟩), (302, lnK 1 303 12 0 3 true), (303, .b ⟨40, .l [i6 1, i6 1, .s 8 65792, i6 0, i6 4, i6 1, .s 0 0, i6 0, i6 5, i6 1, .s 0 0, i6 0], 12, 4, 0, false, true⟩), (304, lnK 2 305 12 0 3 true), (305, .b ⟨40, .l [i6 1, i6 2, .s 8 65792, i6 0, i6 4, i6 2, .s 0 0, i6 0, i6 5, i6 2, .s 0 0, i6 0], 12, 4, 0, false, true⟩), (300, .b ⟨86, .l [.p 300 0, .sy 301], 0, 0, 0, false, false⟩), (301, .t 6 5)]⟩
def lfd1 : LF := ⟨2, 47, [(0, .p 6 0), (1, i6 1000000), (5, .p 43 0)], [], .exit 0, [(5, .p 300 0)], some lhd1⟩
def lhw2 : LH := ⟨4, 520, 580, [(500, .b ⟨38, .l [i6 0, i6 0, i6 0, i6 0, i6 0, i6 0, i6 0, i6 0, i6 0], 0, 0, 0, false, false⟩)], []⟩
def lfw2 : LF := ⟨11, 91, [(5, i6 2), (6, .p 6 0), (8, .x 6), (9, .p 500 0)], [], .exit 2, [(6, .p 6 0)], some lhw2⟩
noncomputable def tab0 : Tab := addLps (addLps ({ tabk with hyp := hy0 }) 14 fi14 [lfd1]) 4 fi4 [lfw2]
theorem run0 (e : Nat) : Go.AX.okB (call tab0 9000 4 [.x 0, .x 1] ⟨H0 e , 4, 0, 0⟩) = true := by kernel_rfl
def nu0 (n : Int) (body : Int) : List Value := [.int .u8 (n),
  .int .u16 (body),
  .int .u16 (body % 2000),
  .int .i64 ((body % 2000)),
  St' (List.replicate (Int.toNat ((body % 2000))) 0),
  .int .i64 ((body % 2000)),
  St' (seqS (rcJ (List.replicate 512 0) ([] : LB) (0 : Int) 0 2) 0 6),
  St' ([] : LB),
  .int .u8 (bt (seqS (rcJ (List.replicate 512 0) ([] : LB) (0 : Int) 0 2) 0 6) 0),
  .int .i64 (((seqS (rcJ (List.replicate 512 0) ([] : LB) (0 : Int) 0 2) 0 6).length : Int))]
theorem one0 (n : Int) (body : Int) : ∀ j, j < 1000000 → (nuL (nu0 n body) j).oneCell' = true := fun j _ => nuL_one (l := nu0 n body) rfl j
theorem path0 (n : Int) (body : Int) (b0 : 0 ≤ n) (b1 : n ≤ 255) (b2 : 0 ≤ body) (b3 : body ≤ 65535) (h0 : (n) % 6 = 0) (h1 : ¬ (512 < (body % 2000))) (h2 : (body % 2000) = 0) (w : World) (hl : laidE w) : CwR 4 #[.int .u8 n, .int .u16 body] w (.bool true) := by
  have hout := out_bd (List.replicate 512 0) ([] : LB) (0 : Int) (by first | (simp; done) | (rw [List.length_replicate]; omega)) (by first | (simp; done) | (rw [List.length_replicate]; omega)) (by omega) (by omega) 0 2 6 (by decide) (by decide)
  have := bt_lo (seqS (rcJ (List.replicate 512 0) ([] : LB) (0 : Int) 0 2) 0 6) 0; have := bt_hi (seqS (rcJ (List.replicate 512 0) ([] : LB) (0 : Int) 0 2) 0 6) 0
  have ho : ∀ k r, (k, r) ∈ hy0 → HOk (cx (nuL (nu0 n body)) (one0 n body) 1 laidE laidE_stab) k r := by
    unfold hy0
    exact hc (kRem (isX rfl) (isZ (m := 6) rfl) (denZ (m := 0) rfl) (by omega) (by omega) (by omega)) <|
     hc (kRem (isX rfl) (isZ (m := 2000) rfl) (denX rfl) (by omega) (by omega) rfl) <|
     hc (kConvF (isX rfl) tu3 (denX rfl) (fI64 (by omega) (by omega))) <|
     hc (kZer (isX rfl) (by omega) (by omega) (denX rfl)) <|
     hc (lnV rfl rfl (by first | omega | (simp <;> omega))) <|
     hc (gtcF rfl (by omega)) <|
     hc (kNeS (isX rfl) (isSx (l := ([] : LB)) 0 0 rfl) (bnF (nilT (by rw [List.length_replicate]; omega)))) <|
     hc (kByt (i := 0) (isX rfl) (isZ (m := 0) rfl) (denX rfl) rfl (by first | omega | (simp <;> omega)) rfl) <|
     hc (lnV rfl rfl (by omega)) <|
     hc (kFit (isX rfl) (by first | omega | (simp <;> omega))) <|
     hc (kNeS (isX rfl) (isSx (l := ([] : LB)) 0 0 rfl) (bnF (decide_eq_true rfl))) <|
     hnil
  exact runP (tb := tab0) (AllOk.lp1 (AllOk.lp1 ((tabkOk (nuL (nu0 n body)) (one0 n body)).hyps ho) (by omega) fi14_at fi14_body (lfCons (lpKnown rfl ⟨0, keyD, lfOkD (l := lfd1) (h := lhd1) (List.replicate 512 0) ([] : LB) (0 : Int) (by first | (simp; done) | (rw [List.length_replicate]; omega)) (by first | (simp; done) | (rw [List.length_replicate]; omega)) (by omega) (by omega) 2 0 6 (by decide) (by decide) (by decide) (by decide) hD2_0 dA2_0 (eA1 e2_0) rfl (by kernel_rfl) (th0 := [(1, .i .i64 (.ofNat 1000000)), (2, .s 0 0)]) (sg0 := [(300, 43), (302, 23), (304, 42), (303, 22), (305, 41)]) (fun X => thCons (show Is _ (.i .i64 (.ofNat 1000000)) (.int .i64 1000000) from isI _ _) (thCons (show Is _ (.s 0 0) (St' []) from isSx (l := []) 0 0 rfl) thNil)) (by kernel_rfl) (thx := [(6, .x 0), (7, .x 2)]) (thXv (v := St' (seqS (rcJ (List.replicate 512 0) ([] : LB) (0 : Int) 0 2) 0 6)) rfl rfl (thXv (v := St' []) rfl rfl (thNil))) (by kernel_rfl)⟩) lfNil)) (by omega) (get_lps2 (by omega) (by omega) fi4_at) fi4_body (lfCons (lpKnown rfl ⟨1, keyL, lfOkW (l := lfw2) (h := lhw2) (List.replicate 512 0) ([] : LB) (0 : Int) (by first | (simp; done) | (rw [List.length_replicate]; omega)) (by first | (simp; done) | (rw [List.length_replicate]; omega)) (by omega) (by omega) 2 0 6 (by decide) (by decide) (by decide) hL2_0 lA2_0 (eA2 e2_0) rfl (by kernel_rfl) (th0 := [(0, .x 6)]) (sg0 := [(520, 500)]) (fun X => thXv (v := St' (seqS (rcJ (List.replicate 512 0) ([] : LB) (0 : Int) 0 2) 0 6)) rfl rfl thNil) (by kernel_rfl) (by kernel_rfl)⟩) lfNil)) rfl (get_lps (by omega)) fiB4 (fun e => run0 e ) (args := [.int .u8 n, .int .u16 body]) (by simp only [RelL, Rel]; exact ⟨_, _, rfl, rfl, ⟨_, _, rfl, rfl, rfl⟩⟩) w hl
def hy1 : LK := [(.bin .rem (.x 0) (.i .u8 (.ofNat 6)), .i .u8 (.ofNat 0)),
  (.bin .rem (.x 1) (.i .u16 (.ofNat 2000)), .x 2),
  (.conv 3 (.x 2), .x 3),
  (.zer (.x 3), .x 4),
  (.len (.x 4), .x 5),
  (.bin .gtr (.x 5) (.i .i64 (.ofNat 512)), .b false),
  (.bin .neq (.x 4) (.s 0 0), .b true),
  (.mm true (.x 5) (.i .i64 (.ofNat 0)), .x 6),
  (.un .neg (.x 6), .x 7),
  (.bin .and (.x 7) (.i .i64 (.ofNat 7)), .x 8),
  (.byt (.x 9) (.i .i64 (.ofNat 0)), .x 11),
  (.len (.x 9), .x 12),
  (.fit (.x 9), .b true),
  (.bin .neq (.x 10) (.s 0 0), .b false)]
def lhd3 : LH := ⟨4, 300, 500, [(6, .b ⟨80, .l [.sl 4 0 8 8 false, .p 5 0, .s 0 0, i6 0, .nils, .b false], 0, 0, 0, false, false⟩), (4, .b ⟨81, .l [.p 26 0, .p 48 0, .nilp, .nilp, .nilp, .nilp, .nilp, .nilp], 0, 0, 0, false, false⟩), (49, .b ⟨86, .l [.nilp, .nils], 0, 0, 0, false, false⟩), (26, lnK 1 25 0 4 0 false), (48, lnK 2 47 0 4 0 false), (25, .b ⟨40, .l [i6 1, i6 1, .s 8 65792, i6 0, i6 4, i6 1, .s 0 0, i6 0, i6 5, i6 1, .x 4, .x 8, i6 5, i6 1, .s 0 0, i6 0], 16, 4, 0, false, true⟩), (47, .b ⟨40, .l [i6 1, i6 2, .s 8 65792, i6 0, i6 4, i6 2, .s 0 0, i6 0, i6 5, i6 2, .x 4, .x 8, i6 5, i6 2, .s 0 0, i6 0], 16, 4, 0, false, true⟩)], [(6, .b ⟨80, .l [.sl 4 0 8 8 false, .p 5 0, .x 10, i6 2, .nils, .b false], 0, 0, 0, false, false⟩), (4, .b ⟨81, .l [.p 302 0, .p 304 0, .nilp, .nilp, .nilp, .nilp, .nilp, .nilp], 0, 0, 0, false, false⟩), (302, lnK 1 303 16 0 4 true), (303, .b ⟨40, .l [i6 1, i6 1, .s 8 65792, i6 0, i6 4, i6 1, .s 0 0, i6 0, i6 5, i6 1, .x 4, .x 8, i6 5, i6 1, .s 0 0, i6 0], 16, 4, 0, false, true⟩), (304, lnK 2 305 16 0 4 true), (305, .b ⟨40, .l [i6 1, i6 2, .s 8 65792, i6 0, i6 4, i6 2, .s 0 0, i6 0, i6 5, i6 2, .x 4, .x 8, i6 5, i6 2, .s 0 0, i6 0], 16, 4, 0, false, true⟩), (300, .b ⟨86, .l [.p 300 0, .sy 301], 0, 0, 0, false, false⟩), (301, .t 9 5)]⟩
def lfd3 : LF := ⟨2, 47, [(0, .p 6 0), (1, i6 1000000), (5, .p 49 0)], [], .exit 0, [(5, .p 300 0)], some lhd3⟩
def lhw4 : LH := ⟨4, 520, 580, [(500, .b ⟨38, .l [i6 0, i6 0, i6 0, i6 0, i6 0, i6 0, i6 0, i6 0, i6 0], 0, 0, 0, false, false⟩)], []⟩
def lfw4 : LF := ⟨11, 91, [(5, i6 2), (6, .p 6 0), (8, .x 9), (9, .p 500 0)], [], .exit 2, [(6, .p 6 0)], some lhw4⟩
noncomputable def tab1 : Tab := addLps (addLps ({ tabk with hyp := hy1 }) 14 fi14 [lfd3]) 4 fi4 [lfw4]
theorem run1 (e : Nat) : Go.AX.okB (call tab1 9000 4 [.x 0, .x 1] ⟨H0 e , 4, 0, 0⟩) = true := by kernel_rfl
def nu1 (n : Int) (body : Int) : List Value := [.int .u8 (n),
  .int .u16 (body),
  .int .u16 (body % 2000),
  .int .i64 ((body % 2000)),
  St' (List.replicate (Int.toNat ((body % 2000))) 0),
  .int .i64 ((body % 2000)),
  .int .i64 ((body % 2000)),
  .int .i64 (-((body % 2000))),
  .int .i64 ((-((body % 2000))) % 8),
  St' (seqS (rcJ (List.replicate 512 0) (List.replicate (Int.toNat ((body % 2000))) 0) ((-((body % 2000))) % 8) 1 2) 0 8),
  St' ([] : LB),
  .int .u8 (bt (seqS (rcJ (List.replicate 512 0) (List.replicate (Int.toNat ((body % 2000))) 0) ((-((body % 2000))) % 8) 1 2) 0 8) 0),
  .int .i64 (((seqS (rcJ (List.replicate 512 0) (List.replicate (Int.toNat ((body % 2000))) 0) ((-((body % 2000))) % 8) 1 2) 0 8).length : Int))]
theorem one1 (n : Int) (body : Int) : ∀ j, j < 1000000 → (nuL (nu1 n body) j).oneCell' = true := fun j _ => nuL_one (l := nu1 n body) rfl j
theorem path1 (n : Int) (body : Int) (b0 : 0 ≤ n) (b1 : n ≤ 255) (b2 : 0 ≤ body) (b3 : body ≤ 65535) (h0 : (n) % 6 = 0) (h1 : ¬ (512 < (body % 2000))) (h2 : ¬ ((body % 2000) = 0)) (w : World) (hl : laidE w) : CwR 4 #[.int .u8 n, .int .u16 body] w (.bool true) := by
  have hout := out_bd (List.replicate 512 0) (List.replicate (Int.toNat ((body % 2000))) 0) ((-((body % 2000))) % 8) (by first | (simp; done) | (rw [List.length_replicate]; omega)) (by first | (simp; done) | (rw [List.length_replicate]; omega)) (by omega) (by omega) 1 2 8 (by decide) (by decide)
  have := bt_lo (seqS (rcJ (List.replicate 512 0) (List.replicate (Int.toNat ((body % 2000))) 0) ((-((body % 2000))) % 8) 1 2) 0 8) 0; have := bt_hi (seqS (rcJ (List.replicate 512 0) (List.replicate (Int.toNat ((body % 2000))) 0) ((-((body % 2000))) % 8) 1 2) 0 8) 0
  have ho : ∀ k r, (k, r) ∈ hy1 → HOk (cx (nuL (nu1 n body)) (one1 n body) 1 laidE laidE_stab) k r := by
    unfold hy1
    exact hc (kRem (isX rfl) (isZ (m := 6) rfl) (denZ (m := 0) rfl) (by omega) (by omega) (by omega)) <|
     hc (kRem (isX rfl) (isZ (m := 2000) rfl) (denX rfl) (by omega) (by omega) rfl) <|
     hc (kConvF (isX rfl) tu3 (denX rfl) (fI64 (by omega) (by omega))) <|
     hc (kZer (isX rfl) (by omega) (by omega) (denX rfl)) <|
     hc (lnV rfl rfl (by first | omega | (simp <;> omega))) <|
     hc (gtcF rfl (by omega)) <|
     hc (kNeS (isX rfl) (isSx (l := ([] : LB)) 0 0 rfl) (bnT (nilF (by rw [List.length_replicate]; omega)))) <|
     hc (kMax (isX rfl) (isZ (m := 0) rfl) (denX rfl) (by omega)) <|
     hc (kNeg (isX rfl) (denX rfl) (by omega) (fI64 (by omega) (by omega))) <|
     hc (kAndG 3 8 rfl (by decide) (isX rfl) (isZ (m := 7) rfl) (denX rfl) (fI64 (by omega) (by omega)) rfl rfl (fI64 (by omega) (by omega))) <|
     hc (kByt (i := 0) (isX rfl) (isZ (m := 0) rfl) (denX rfl) rfl (by first | omega | (simp <;> omega)) rfl) <|
     hc (lnV rfl rfl (by omega)) <|
     hc (kFit (isX rfl) (by first | omega | (simp <;> omega))) <|
     hc (kNeS (isX rfl) (isSx (l := ([] : LB)) 0 0 rfl) (bnF (decide_eq_true rfl))) <|
     hnil
  exact runP (tb := tab1) (AllOk.lp1 (AllOk.lp1 ((tabkOk (nuL (nu1 n body)) (one1 n body)).hyps ho) (by omega) fi14_at fi14_body (lfCons (lpKnown rfl ⟨0, keyD, lfOkD (l := lfd3) (h := lhd3) (List.replicate 512 0) (List.replicate (Int.toNat ((body % 2000))) 0) ((-((body % 2000))) % 8) (by first | (simp; done) | (rw [List.length_replicate]; omega)) (by first | (simp; done) | (rw [List.length_replicate]; omega)) (by omega) (by omega) 2 1 8 (by decide) (by decide) (by decide) (by decide) hD2_1 dA2_1 (eA1 e2_1) rfl (by kernel_rfl) (th0 := [(1, .i .i64 (.ofNat 1000000)), (2, .s 0 0), (4, .x 4), (5, .x 8)]) (sg0 := [(300, 49), (302, 26), (304, 48), (303, 25), (305, 47)]) (fun X => thCons (show Is _ (.i .i64 (.ofNat 1000000)) (.int .i64 1000000) from isI _ _) (thCons (show Is _ (.s 0 0) (St' []) from isSx (l := []) 0 0 rfl) (thXv (v := St' (List.replicate (Int.toNat ((body % 2000))) 0)) rfl rfl (thXv (v := .int .i64 ((-((body % 2000))) % 8)) rfl rfl thNil)))) (by kernel_rfl) (thx := [(9, .x 0), (10, .x 2), (4, .x 4), (8, .x 5)]) (thXv (v := St' (seqS (rcJ (List.replicate 512 0) (List.replicate (Int.toNat ((body % 2000))) 0) ((-((body % 2000))) % 8) 1 2) 0 8)) rfl rfl (thXv (v := St' []) rfl rfl (thXv (v := St' (List.replicate (Int.toNat ((body % 2000))) 0)) rfl rfl (thXv (v := .int .i64 ((-((body % 2000))) % 8)) rfl rfl (thNil))))) (by kernel_rfl)⟩) lfNil)) (by omega) (get_lps2 (by omega) (by omega) fi4_at) fi4_body (lfCons (lpKnown rfl ⟨1, keyL, lfOkW (l := lfw4) (h := lhw4) (List.replicate 512 0) (List.replicate (Int.toNat ((body % 2000))) 0) ((-((body % 2000))) % 8) (by first | (simp; done) | (rw [List.length_replicate]; omega)) (by first | (simp; done) | (rw [List.length_replicate]; omega)) (by omega) (by omega) 2 1 8 (by decide) (by decide) (by decide) hL2_1 lA2_1 (eA2 e2_1) rfl (by kernel_rfl) (th0 := [(0, .x 9)]) (sg0 := [(520, 500)]) (fun X => thXv (v := St' (seqS (rcJ (List.replicate 512 0) (List.replicate (Int.toNat ((body % 2000))) 0) ((-((body % 2000))) % 8) 1 2) 0 8)) rfl rfl thNil) (by kernel_rfl) (by kernel_rfl)⟩) lfNil)) rfl (get_lps (by omega)) fiB4 (fun e => run1 e ) (args := [.int .u8 n, .int .u16 body]) (by simp only [RelL, Rel]; exact ⟨_, _, rfl, rfl, ⟨_, _, rfl, rfl, rfl⟩⟩) w hl
def hy2 : LK := [(.bin .rem (.x 0) (.i .u8 (.ofNat 6)), .i .u8 (.ofNat 0)),
  (.bin .rem (.x 1) (.i .u16 (.ofNat 2000)), .x 2),
  (.conv 3 (.x 2), .x 3),
  (.zer (.x 3), .x 4),
  (.len (.x 4), .x 5),
  (.bin .gtr (.x 5) (.i .i64 (.ofNat 512)), .b true),
  (.sub (.x 4) none (some (.i .i64 (.ofNat 512))), .x 6),
  (.len (.x 6), .i .i64 (.ofNat 512)),
  (.sub (.x 4) (some (.i .i64 (.ofNat 512))) none, .x 7),
  (.len (.x 7), .x 8),
  (.bin .gtr (.x 8) (.i .i64 (.ofNat 512)), .b false),
  (.bin .neq (.x 7) (.s 0 0), .b true),
  (.mm true (.x 8) (.i .i64 (.ofNat 0)), .x 9),
  (.un .neg (.x 9), .x 10),
  (.bin .and (.x 10) (.i .i64 (.ofNat 7)), .x 11),
  (.byt (.x 12) (.i .i64 (.ofNat 0)), .x 14),
  (.len (.x 12), .x 15),
  (.fit (.x 12), .b true),
  (.bin .neq (.x 13) (.s 0 0), .b false)]
def lhd5 : LH := ⟨4, 300, 500, [(6, .b ⟨80, .l [.sl 4 0 8 8 false, .p 5 0, .s 0 0, i6 0, .nils, .b false], 0, 0, 0, false, false⟩), (4, .b ⟨81, .l [.p 29 0, .p 54 0, .nilp, .nilp, .nilp, .nilp, .nilp, .nilp], 0, 0, 0, false, false⟩), (55, .b ⟨86, .l [.nilp, .nils], 0, 0, 0, false, false⟩), (29, lnK 1 28 0 5 0 false), (54, lnK 2 53 0 5 0 false), (28, .b ⟨40, .l [i6 1, i6 1, .s 8 65792, i6 0, i6 4, i6 1, .s 0 0, i6 0, i6 5, i6 1, .x 6, i6 0, i6 5, i6 1, .x 7, .x 11, i6 5, i6 1, .s 0 0, i6 0], 20, 4, 0, false, true⟩), (53, .b ⟨40, .l [i6 1, i6 2, .s 8 65792, i6 0, i6 4, i6 2, .s 0 0, i6 0, i6 5, i6 2, .x 6, i6 0, i6 5, i6 2, .x 7, .x 11, i6 5, i6 2, .s 0 0, i6 0], 20, 4, 0, false, true⟩)], [(6, .b ⟨80, .l [.sl 4 0 8 8 false, .p 5 0, .x 13, i6 2, .nils, .b false], 0, 0, 0, false, false⟩), (4, .b ⟨81, .l [.p 302 0, .p 304 0, .nilp, .nilp, .nilp, .nilp, .nilp, .nilp], 0, 0, 0, false, false⟩), (302, lnK 1 303 20 0 5 true), (303, .b ⟨40, .l [i6 1, i6 1, .s 8 65792, i6 0, i6 4, i6 1, .s 0 0, i6 0, i6 5, i6 1, .x 6, i6 0, i6 5, i6 1, .x 7, .x 11, i6 5, i6 1, .s 0 0, i6 0], 20, 4, 0, false, true⟩), (304, lnK 2 305 20 0 5 true), (305, .b ⟨40, .l [i6 1, i6 2, .s 8 65792, i6 0, i6 4, i6 2, .s 0 0, i6 0, i6 5, i6 2, .x 6, i6 0, i6 5, i6 2, .x 7, .x 11, i6 5, i6 2, .s 0 0, i6 0], 20, 4, 0, false, true⟩), (300, .b ⟨86, .l [.p 300 0, .sy 301], 0, 0, 0, false, false⟩), (301, .t 12 5)]⟩
def lfd5 : LF := ⟨2, 47, [(0, .p 6 0), (1, i6 1000000), (5, .p 55 0)], [], .exit 0, [(5, .p 300 0)], some lhd5⟩
def lhw6 : LH := ⟨4, 520, 580, [(500, .b ⟨38, .l [i6 0, i6 0, i6 0, i6 0, i6 0, i6 0, i6 0, i6 0, i6 0], 0, 0, 0, false, false⟩)], []⟩
def lfw6 : LF := ⟨11, 91, [(5, i6 2), (6, .p 6 0), (8, .x 12), (9, .p 500 0)], [], .exit 2, [(6, .p 6 0)], some lhw6⟩
noncomputable def tab2 : Tab := addLps (addLps ({ tabk with hyp := hy2 }) 14 fi14 [lfd5]) 4 fi4 [lfw6]
theorem run2 (e : Nat) : Go.AX.okB (call tab2 9000 4 [.x 0, .x 1] ⟨H0 e , 4, 0, 0⟩) = true := by kernel_rfl
def nu2 (n : Int) (body : Int) : List Value := [.int .u8 (n),
  .int .u16 (body),
  .int .u16 (body % 2000),
  .int .i64 ((body % 2000)),
  St' (List.replicate (Int.toNat ((body % 2000))) 0),
  .int .i64 ((body % 2000)),
  St' (List.replicate (Int.toNat (512)) 0),
  St' (List.replicate (Int.toNat ((body % 2000) - 512)) 0),
  .int .i64 ((body % 2000) - 512),
  .int .i64 ((body % 2000) - 512),
  .int .i64 (512 - (body % 2000)),
  .int .i64 ((512 - (body % 2000)) % 8),
  St' (seqS (rcJ (List.replicate (Int.toNat (512)) 0) (List.replicate (Int.toNat ((body % 2000) - 512)) 0) ((512 - (body % 2000)) % 8) 2 2) 0 10),
  St' ([] : LB),
  .int .u8 (bt (seqS (rcJ (List.replicate (Int.toNat (512)) 0) (List.replicate (Int.toNat ((body % 2000) - 512)) 0) ((512 - (body % 2000)) % 8) 2 2) 0 10) 0),
  .int .i64 (((seqS (rcJ (List.replicate (Int.toNat (512)) 0) (List.replicate (Int.toNat ((body % 2000) - 512)) 0) ((512 - (body % 2000)) % 8) 2 2) 0 10).length : Int))]
theorem one2 (n : Int) (body : Int) : ∀ j, j < 1000000 → (nuL (nu2 n body) j).oneCell' = true := fun j _ => nuL_one (l := nu2 n body) rfl j
theorem path2 (n : Int) (body : Int) (b0 : 0 ≤ n) (b1 : n ≤ 255) (b2 : 0 ≤ body) (b3 : body ≤ 65535) (h0 : (n) % 6 = 0) (h1 : 512 < (body % 2000)) (h2 : ¬ (512 < (body % 2000) - 512)) (w : World) (hl : laidE w) : CwR 4 #[.int .u8 n, .int .u16 body] w (.bool true) := by
  have hout := out_bd (List.replicate (Int.toNat (512)) 0) (List.replicate (Int.toNat ((body % 2000) - 512)) 0) ((512 - (body % 2000)) % 8) (by first | (simp; done) | (rw [List.length_replicate]; omega)) (by first | (simp; done) | (rw [List.length_replicate]; omega)) (by omega) (by omega) 2 2 10 (by decide) (by decide)
  have := bt_lo (seqS (rcJ (List.replicate (Int.toNat (512)) 0) (List.replicate (Int.toNat ((body % 2000) - 512)) 0) ((512 - (body % 2000)) % 8) 2 2) 0 10) 0; have := bt_hi (seqS (rcJ (List.replicate (Int.toNat (512)) 0) (List.replicate (Int.toNat ((body % 2000) - 512)) 0) ((512 - (body % 2000)) % 8) 2 2) 0 10) 0
  have ho : ∀ k r, (k, r) ∈ hy2 → HOk (cx (nuL (nu2 n body)) (one2 n body) 1 laidE laidE_stab) k r := by
    unfold hy2
    exact hc (kRem (isX rfl) (isZ (m := 6) rfl) (denZ (m := 0) rfl) (by omega) (by omega) (by omega)) <|
     hc (kRem (isX rfl) (isZ (m := 2000) rfl) (denX rfl) (by omega) (by omega) rfl) <|
     hc (kConvF (isX rfl) tu3 (denX rfl) (fI64 (by omega) (by omega))) <|
     hc (kZer (isX rfl) (by omega) (by omega) (denX rfl)) <|
     hc (lnV rfl rfl (by first | omega | (simp <;> omega))) <|
     hc (gtcT rfl (by omega)) <|
     hc (kMidR (E := (body % 2000)) (P := 0) (Q := 512) (isX rfl) (.inl ⟨rfl, rfl⟩) (.inr ⟨_, _, rfl, (isZ (m := 512) rfl)⟩) (by omega) (by omega) (by omega) (denX (congrArg (fun k : Int => St' (List.replicate k.toNat 0)) (show (512 : Int) = 512 - (0) by omega)))) <|
     hc (kLenE (isX rfl) (denZ (m := 512) rfl) (by first | omega | (simp <;> omega))) <|
     hc (kMidR (E := (body % 2000)) (P := 512) (Q := (body % 2000)) (isX rfl) (.inr ⟨_, _, rfl, (isZ (m := 512) rfl)⟩) (.inl ⟨rfl, by first | omega | (simp <;> omega)⟩) (by omega) (by omega) (by omega) (denX (congrArg (fun k : Int => St' (List.replicate k.toNat 0)) (show ((body % 2000) - 512 : Int) = (body % 2000) - (512) by omega)))) <|
     hc (lnV rfl rfl (by first | omega | (simp <;> omega))) <|
     hc (gtcF rfl (by omega)) <|
     hc (kNeS (isX rfl) (isSx (l := ([] : LB)) 0 0 rfl) (bnT (nilF (by rw [List.length_replicate]; omega)))) <|
     hc (kMax (isX rfl) (isZ (m := 0) rfl) (denX rfl) (by omega)) <|
     hc (kNeg (isX rfl) (denX rfl) (by omega) (fI64 (by omega) (by omega))) <|
     hc (kAndG 3 8 rfl (by decide) (isX rfl) (isZ (m := 7) rfl) (denX rfl) (fI64 (by omega) (by omega)) rfl rfl (fI64 (by omega) (by omega))) <|
     hc (kByt (i := 0) (isX rfl) (isZ (m := 0) rfl) (denX rfl) rfl (by first | omega | (simp <;> omega)) rfl) <|
     hc (lnV rfl rfl (by omega)) <|
     hc (kFit (isX rfl) (by first | omega | (simp <;> omega))) <|
     hc (kNeS (isX rfl) (isSx (l := ([] : LB)) 0 0 rfl) (bnF (decide_eq_true rfl))) <|
     hnil
  exact runP (tb := tab2) (AllOk.lp1 (AllOk.lp1 ((tabkOk (nuL (nu2 n body)) (one2 n body)).hyps ho) (by omega) fi14_at fi14_body (lfCons (lpKnown rfl ⟨0, keyD, lfOkD (l := lfd5) (h := lhd5) (List.replicate (Int.toNat (512)) 0) (List.replicate (Int.toNat ((body % 2000) - 512)) 0) ((512 - (body % 2000)) % 8) (by first | (simp; done) | (rw [List.length_replicate]; omega)) (by first | (simp; done) | (rw [List.length_replicate]; omega)) (by omega) (by omega) 2 2 10 (by decide) (by decide) (by decide) (by decide) hD2_2 dA2_2 (eA1 e2_2) rfl (by kernel_rfl) (th0 := [(1, .i .i64 (.ofNat 1000000)), (2, .s 0 0), (3, .x 6), (4, .x 7), (5, .x 11)]) (sg0 := [(300, 55), (302, 29), (304, 54), (303, 28), (305, 53)]) (fun X => thCons (show Is _ (.i .i64 (.ofNat 1000000)) (.int .i64 1000000) from isI _ _) (thCons (show Is _ (.s 0 0) (St' []) from isSx (l := []) 0 0 rfl) (thXv (v := St' (List.replicate (Int.toNat (512)) 0)) rfl rfl (thXv (v := St' (List.replicate (Int.toNat ((body % 2000) - 512)) 0)) rfl rfl (thXv (v := .int .i64 ((512 - (body % 2000)) % 8)) rfl rfl thNil))))) (by kernel_rfl) (thx := [(12, .x 0), (13, .x 2), (6, .x 3), (7, .x 4), (11, .x 5)]) (thXv (v := St' (seqS (rcJ (List.replicate (Int.toNat (512)) 0) (List.replicate (Int.toNat ((body % 2000) - 512)) 0) ((512 - (body % 2000)) % 8) 2 2) 0 10)) rfl rfl (thXv (v := St' []) rfl rfl (thXv (v := St' (List.replicate (Int.toNat (512)) 0)) rfl rfl (thXv (v := St' (List.replicate (Int.toNat ((body % 2000) - 512)) 0)) rfl rfl (thXv (v := .int .i64 ((512 - (body % 2000)) % 8)) rfl rfl (thNil)))))) (by kernel_rfl)⟩) lfNil)) (by omega) (get_lps2 (by omega) (by omega) fi4_at) fi4_body (lfCons (lpKnown rfl ⟨1, keyL, lfOkW (l := lfw6) (h := lhw6) (List.replicate (Int.toNat (512)) 0) (List.replicate (Int.toNat ((body % 2000) - 512)) 0) ((512 - (body % 2000)) % 8) (by first | (simp; done) | (rw [List.length_replicate]; omega)) (by first | (simp; done) | (rw [List.length_replicate]; omega)) (by omega) (by omega) 2 2 10 (by decide) (by decide) (by decide) hL2_2 lA2_2 (eA2 e2_2) rfl (by kernel_rfl) (th0 := [(0, .x 12)]) (sg0 := [(520, 500)]) (fun X => thXv (v := St' (seqS (rcJ (List.replicate (Int.toNat (512)) 0) (List.replicate (Int.toNat ((body % 2000) - 512)) 0) ((512 - (body % 2000)) % 8) 2 2) 0 10)) rfl rfl thNil) (by kernel_rfl) (by kernel_rfl)⟩) lfNil)) rfl (get_lps (by omega)) fiB4 (fun e => run2 e ) (args := [.int .u8 n, .int .u16 body]) (by simp only [RelL, Rel]; exact ⟨_, _, rfl, rfl, ⟨_, _, rfl, rfl, rfl⟩⟩) w hl
end Go.Proofs.YtkhcgoeccmkmdaaGreatDoor.muxFair
