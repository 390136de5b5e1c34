/- A part of the proof: an interpreter of the model's own code on partly known states, and that what it answers is what the program answers. No condition of its own. -/
import Derived.Test.YtkhcgoeccmkmdaaGreatDoorM1MuxFairQ
set_option maxRecDepth 100000
set_option linter.unusedVariables false
set_option linter.unusedSimpArgs false
set_option maxHeartbeats 4000000
namespace Go.Proofs.YtkhcgoeccmkmdaaGreatDoor.muxFair
open Go Go.AX Go.Proofs Go.Proofs.YtkhcgoeccmkmdaaGreatDoor
def hy27 : LK := [(.bin .rem (.x 0) (.i .u8 (.ofNat 6)), .i .u8 (.ofNat 5)),
  (.bin .rem (.x 1) (.i .u16 (.ofNat 2000)), .x 2),
  (.conv 3 (.x 2), .x 3),
  (.zer (.x 3), .x 4),
  (.len (.x 4), .x 5),
  (.bin .gtr (.x 5) (.i .i64 (.ofNat 512)), .b true),
  (.sub (.x 4) none (some (.i .i64 (.ofNat 512))), .x 6),
  (.len (.x 6), .i .i64 (.ofNat 512)),
  (.sub (.x 4) (some (.i .i64 (.ofNat 512))) none, .x 7),
  (.len (.x 7), .x 8),
  (.bin .gtr (.x 8) (.i .i64 (.ofNat 512)), .b false),
  (.bin .neq (.x 7) (.s 0 0), .b true),
  (.mm true (.x 8) (.i .i64 (.ofNat 0)), .x 9),
  (.un .neg (.x 9), .x 10),
  (.bin .and (.x 10) (.i .i64 (.ofNat 7)), .x 11),
  (.byt (.x 12) (.i .i64 (.ofNat 0)), .x 14),
  (.len (.x 12), .x 15),
  (.fit (.x 12), .b true),
  (.bin .neq (.x 13) (.s 0 0), .b false)]
def lhd55 : LH := ⟨4, 300, 500, [(6, .b ⟨80, .l [.sl 4 0 8 8 false, .p 5 0, .s 0 0, i6 0, .nils, .b false], 0, 0, 0, false, false⟩), (4, .b ⟨81, .l [.p 29 0, .p 54 0, .p 81 0, .p 110 0, .p 141 0, .p 174 0, .p 209 0, .nilp], 0, 0, 0, false, false⟩), (210, .b ⟨86, .l [.nilp, .nils], 0, 0, 0, false, false⟩), (29, lnK 1 28 0 5 0 false), (54, lnK 2 53 0 5 0 false), (81, lnK 3 80 0 5 0 false), (110, lnK 4 109 0 5 0 false), (141, lnK 5 140 0 5 0 false), (174, lnK 6 173 0 5 0 false), (209, lnK 7 208 0 5 0 false), (28, .b ⟨40, .l [i6 1, i6 1, .s 8 65792, i6 0, i6 4, i6 1, .s 0 0, i6 0, i6 5, i6 1, .x 6, i6 0, i6 5, i6 1, .x 7, .x 11, i6 5, i6 1, .s 0 0, i6 0], 20, 4, 0, false, true⟩), (53, .b ⟨40, .l [i6 1, i6 2, .s 8 65792, i6 0, i6 4, i6 2, .s 0 0, i6 0, i6 5, i6 2, .x 6, i6 0, i6 5, i6 2, .x 7, .x 11, i6 5, i6 2, .s 0 0, i6 0], 20, 4, 0, false, true⟩), (80, .b ⟨40, .l [i6 1, i6 3, .s 8 65792, i6 0, i6 4, i6 3, .s 0 0, i6 0, i6 5, i6 3, .x 6, i6 0, i6 5, i6 3, .x 7, .x 11, i6 5, i6 3, .s 0 0, i6 0], 20, 4, 0, false, true⟩), (109, .b ⟨40, .l [i6 1, i6 4, .s 8 65792, i6 0, i6 4, i6 4, .s 0 0, i6 0, i6 5, i6 4, .x 6, i6 0, i6 5, i6 4, .x 7, .x 11, i6 5, i6 4, .s 0 0, i6 0], 20, 4, 0, false, true⟩), (140, .b ⟨40, .l [i6 1, i6 5, .s 8 65792, i6 0, i6 4, i6 5, .s 0 0, i6 0, i6 5, i6 5, .x 6, i6 0, i6 5, i6 5, .x 7, .x 11, i6 5, i6 5, .s 0 0, i6 0], 20, 4, 0, false, true⟩), (173, .b ⟨40, .l [i6 1, i6 6, .s 8 65792, i6 0, i6 4, i6 6, .s 0 0, i6 0, i6 5, i6 6, .x 6, i6 0, i6 5, i6 6, .x 7, .x 11, i6 5, i6 6, .s 0 0, i6 0], 20, 4, 0, false, true⟩), (208, .b ⟨40, .l [i6 1, i6 7, .s 8 65792, i6 0, i6 4, i6 7, .s 0 0, i6 0, i6 5, i6 7, .x 6, i6 0, i6 5, i6 7, .x 7, .x 11, i6 5, i6 7, .s 0 0, i6 0], 20, 4, 0, false, true⟩)], [(6, .b ⟨80, .l [.sl 4 0 8 8 false, .p 5 0, .x 13, i6 7, .nils, .b false], 0, 0, 0, false, false⟩), (4, .b ⟨81, .l [.p 302 0, .p 304 0, .p 306 0, .p 308 0, .p 310 0, .p 312 0, .p 314 0, .nilp], 0, 0, 0, false, false⟩), (302, lnK 1 303 20 0 5 true), (303, .b ⟨40, .l [i6 1, i6 1, .s 8 65792, i6 0, i6 4, i6 1, .s 0 0, i6 0, i6 5, i6 1, .x 6, i6 0, i6 5, i6 1, .x 7, .x 11, i6 5, i6 1, .s 0 0, i6 0], 20, 4, 0, false, true⟩), (304, lnK 2 305 20 0 5 true), (305, .b ⟨40, .l [i6 1, i6 2, .s 8 65792, i6 0, i6 4, i6 2, .s 0 0, i6 0, i6 5, i6 2, .x 6, i6 0, i6 5, i6 2, .x 7, .x 11, i6 5, i6 2, .s 0 0, i6 0], 20, 4, 0, false, true⟩), (306, lnK 3 307 20 0 5 true), (307, .b ⟨40, .l [i6 1, i6 3, .s 8 65792, i6 0, i6 4, i6 3, .s 0 0, i6 0, i6 5, i6 3, .x 6, i6 0, i6 5, i6 3, .x 7, .x 11, i6 5, i6 3, .s 0 0, i6 0], 20, 4, 0, false, true⟩), (308, lnK 4 309 20 0 5 true), (309, .b ⟨40, .l [i6 1, i6 4, .s 8 65792, i6 0, i6 4, i6 4, .s 0 0, i6 0, i6 5, i6 4, .x 6, i6 0, i6 5, i6 4, .x 7, .x 11, i6 5, i6 4, .s 0 0, i6 0], 20, 4, 0, false, true⟩), (310, lnK 5 311 20 0 5 true), (311, .b ⟨40, .l [i6 1, i6 5, .s 8 65792, i6 0, i6 4, i6 5, .s 0 0, i6 0, i6 5, i6 5, .x 6, i6 0, i6 5, i6 5, .x 7, .x 11, i6 5, i6 5, .s 0 0, i6 0], 20, 4, 0, false, true⟩), (312, lnK 6 313 20 0 5 true), (313, .b ⟨40, .l [i6 1, i6 6, .s 8 65792, i6 0, i6 4, i6 6, .s 0 0, i6 0, i6 5, i6 6, .x 6, i6 0, i6 5, i6 6, .x 7, .x 11, i6 5, i6 6, .s 0 0, i6 0], 20, 4, 0, false, true⟩), (314, lnK 7 315 20 0 5 true), (315, .b ⟨40, .l [i6 1, i6 7, .s 8 65792, i6 0, i6 4, i6 7, .s 0 0, i6 0, i6 5, i6 7, .x 6, i6 0, i6 5, i6 7, .x 7, .x 11, i6 5, i6 7, .s 0 0, i6 0], 20, 4, 0, false, true⟩), (300, .b ⟨86, .l [.p 300 0, .sy 301], 0, 0, 0, false, false⟩), (301, .t 12 5)]⟩
def lfd55 : LF := ⟨2, 47, [(0, .p 6 0), (1, i6 1000000), (5, .p 210 0)], [], .exit 0, [(5, .p 300 0)], some lhd55⟩
def lhw56 : LH := ⟨4, 520, 580, [(500, .b ⟨38, .l [i6 0, i6 0, i6 0, i6 0, i6 0, i6 0, i6 0, i6 0, i6 0], 0, 0, 0, false, false⟩)], []⟩
def lfw56 : LF := ⟨11, 91, [(5, i6 7), (6, .p 6 0), (8, .x 12), (9, .p 500 0)], [], .exit 2, [(6, .p 6 0)], some lhw56⟩
noncomputable def tab27 : Tab := addLps (addLps ({ tabk with hyp := hy27 }) 14 fi14 [lfd55]) 4 fi4 [lfw56]
theorem run27 (e : Nat) : Go.AX.okB (call tab27 9000 4 [.x 0, .x 1] ⟨H0 e , 4, 0, 0⟩) = true := by kernel_rfl
def nu27 (n : Int) (body : Int) : List Value := [.int .u8 (n),
  .int .u16 (body),
  .int .u16 (body % 2000),
  .int .i64 ((body % 2000)),
  St' (List.replicate (Int.toNat ((body % 2000))) 0),
  .int .i64 ((body % 2000)),
  St' (List.replicate (Int.toNat (512)) 0),
  St' (List.replicate (Int.toNat ((body % 2000) - 512)) 0),
  .int .i64 ((body % 2000) - 512),
  .int .i64 ((body % 2000) - 512),
  .int .i64 (512 - (body % 2000)),
  .int .i64 ((512 - (body % 2000)) % 8),
  St' (seqS (rcJ (List.replicate (Int.toNat (512)) 0) (List.replicate (Int.toNat ((body % 2000) - 512)) 0) ((512 - (body % 2000)) % 8) 2 7) 0 35),
  St' ([] : LB),
  .int .u8 (bt (seqS (rcJ (List.replicate (Int.toNat (512)) 0) (List.replicate (Int.toNat ((body % 2000) - 512)) 0) ((512 - (body % 2000)) % 8) 2 7) 0 35) 0),
  .int .i64 (((seqS (rcJ (List.replicate (Int.toNat (512)) 0) (List.replicate (Int.toNat ((body % 2000) - 512)) 0) ((512 - (body % 2000)) % 8) 2 7) 0 35).length : Int))]
theorem one27 (n : Int) (body : Int) : ∀ j, j < 1000000 → (nuL (nu27 n body) j).oneCell' = true := fun j _ => nuL_one (l := nu27 n body) rfl j
theorem path27 (n : Int) (body : Int) (b0 : 0 ≤ n) (b1 : n ≤ 255) (b2 : 0 ≤ body) (b3 : body ≤ 65535) (h0 : (n) % 6 = 5) (h1 : 512 < (body % 2000)) (h2 : ¬ (512 < (body % 2000) - 512)) (w : World) (hl : laidE w) : CwR 4 #[.int .u8 n, .int .u16 body] w (.bool true) := by
  have hout := out_bd (List.replicate (Int.toNat (512)) 0) (List.replicate (Int.toNat ((body % 2000) - 512)) 0) ((512 - (body % 2000)) % 8) (by first | (simp; done) | (rw [List.length_replicate]; omega)) (by first | (simp; done) | (rw [List.length_replicate]; omega)) (by omega) (by omega) 2 7 35 (by decide) (by decide)
  have := bt_lo (seqS (rcJ (List.replicate (Int.toNat (512)) 0) (List.replicate (Int.toNat ((body % 2000) - 512)) 0) ((512 - (body % 2000)) % 8) 2 7) 0 35) 0; have := bt_hi (seqS (rcJ (List.replicate (Int.toNat (512)) 0) (List.replicate (Int.toNat ((body % 2000) - 512)) 0) ((512 - (body % 2000)) % 8) 2 7) 0 35) 0
  have ho : ∀ k r, (k, r) ∈ hy27 → HOk (cx (nuL (nu27 n body)) (one27 n body) 1 laidE laidE_stab) k r := by
    unfold hy27
    exact hc (kRem (isX rfl) (isZ (m := 6) rfl) (denZ (m := 5) rfl) (by omega) (by omega) (by omega)) <|
     hc (kRem (isX rfl) (isZ (m := 2000) rfl) (denX rfl) (by omega) (by omega) rfl) <|
     hc (kConvF (isX rfl) tu3 (denX rfl) (fI64 (by omega) (by omega))) <|
     hc (kZer (isX rfl) (by omega) (by omega) (denX rfl)) <|
     hc (lnV rfl rfl (by first | omega | (simp <;> omega))) <|
     hc (gtcT rfl (by omega)) <|
     hc (kMidR (E := (body % 2000)) (P := 0) (Q := 512) (isX rfl) (.inl ⟨rfl, rfl⟩) (.inr ⟨_, _, rfl, (isZ (m := 512) rfl)⟩) (by omega) (by omega) (by omega) (denX (congrArg (fun k : Int => St' (List.replicate k.toNat 0)) (show (512 : Int) = 512 - (0) by omega)))) <|
     hc (kLenE (isX rfl) (denZ (m := 512) rfl) (by first | omega | (simp <;> omega))) <|
     hc (kMidR (E := (body % 2000)) (P := 512) (Q := (body % 2000)) (isX rfl) (.inr ⟨_, _, rfl, (isZ (m := 512) rfl)⟩) (.inl ⟨rfl, by first | omega | (simp <;> omega)⟩) (by omega) (by omega) (by omega) (denX (congrArg (fun k : Int => St' (List.replicate k.toNat 0)) (show ((body % 2000) - 512 : Int) = (body % 2000) - (512) by omega)))) <|
     hc (lnV rfl rfl (by first | omega | (simp <;> omega))) <|
     hc (gtcF rfl (by omega)) <|
     hc (kNeS (isX rfl) (isSx (l := ([] : LB)) 0 0 rfl) (bnT (nilF (by rw [List.length_replicate]; omega)))) <|
     hc (kMax (isX rfl) (isZ (m := 0) rfl) (denX rfl) (by omega)) <|
     hc (kNeg (isX rfl) (denX rfl) (by omega) (fI64 (by omega) (by omega))) <|
     hc (kAndG 3 8 rfl (by decide) (isX rfl) (isZ (m := 7) rfl) (denX rfl) (fI64 (by omega) (by omega)) rfl rfl (fI64 (by omega) (by omega))) <|
     hc (kByt (i := 0) (isX rfl) (isZ (m := 0) rfl) (denX rfl) rfl (by first | omega | (simp <;> omega)) rfl) <|
     hc (lnV rfl rfl (by omega)) <|
     hc (kFit (isX rfl) (by first | omega | (simp <;> omega))) <|
     hc (kNeS (isX rfl) (isSx (l := ([] : LB)) 0 0 rfl) (bnF (decide_eq_true rfl))) <|
     hnil
  exact runP (tb := tab27) (AllOk.lp1 (AllOk.lp1 ((tabkOk (nuL (nu27 n body)) (one27 n body)).hyps ho) (by omega) fi14_at fi14_body (lfCons (lpKnown rfl ⟨0, keyD, lfOkD (l := lfd55) (h := lhd55) (List.replicate (Int.toNat (512)) 0) (List.replicate (Int.toNat ((body % 2000) - 512)) 0) ((512 - (body % 2000)) % 8) (by first | (simp; done) | (rw [List.length_replicate]; omega)) (by first | (simp; done) | (rw [List.length_replicate]; omega)) (by omega) (by omega) 7 2 35 (by decide) (by decide) (by decide) (by decide) hD7_2 dA7_2 (eA1 e7_2) rfl (by kernel_rfl) (th0 := [(1, .i .i64 (.ofNat 1000000)), (2, .s 0 0), (3, .x 6), (4, .x 7), (5, .x 11)]) (sg0 := [(300, 210), (302, 29), (304, 54), (306, 81), (308, 110), (310, 141), (312, 174), (314, 209), (303, 28), (305, 53), (307, 80), (309, 109), (311, 140), (313, 173), (315, 208)]) (fun X => thCons (show Is _ (.i .i64 (.ofNat 1000000)) (.int .i64 1000000) from isI _ _) (thCons (show Is _ (.s 0 0) (St' []) from isSx (l := []) 0 0 rfl) (thXv (v := St' (List.replicate (Int.toNat (512)) 0)) rfl rfl (thXv (v := St' (List.replicate (Int.toNat ((body % 2000) - 512)) 0)) rfl rfl (thXv (v := .int .i64 ((512 - (body % 2000)) % 8)) rfl rfl thNil))))) (by kernel_rfl) (thx := [(12, .x 0), (13, .x 2), (6, .x 3), (7, .x 4), (11, .x 5)]) (thXv (v := St' (seqS (rcJ (List.replicate (Int.toNat (512)) 0) (List.replicate (Int.toNat ((body % 2000) - 512)) 0) ((512 - (body % 2000)) % 8) 2 7) 0 35)) rfl rfl (thXv (v := St' []) rfl rfl (thXv (v := St' (List.replicate (Int.toNat (512)) 0)) rfl rfl (thXv (v := St' (List.replicate (Int.toNat ((body % 2000) - 512)) 0)) rfl rfl (thXv (v := .int .i64 ((512 - (body % 2000)) % 8)) rfl rfl (thNil)))))) (by kernel_rfl)⟩) lfNil)) (by omega) (get_lps2 (by omega) (by omega) fi4_at) fi4_body (lfCons (lpKnown rfl ⟨1, keyL, lfOkW (l := lfw56) (h := lhw56) (List.replicate (Int.toNat (512)) 0) (List.replicate (Int.toNat ((body % 2000) - 512)) 0) ((512 - (body % 2000)) % 8) (by first | (simp; done) | (rw [List.length_replicate]; omega)) (by first | (simp; done) | (rw [List.length_replicate]; omega)) (by omega) (by omega) 7 2 35 (by decide) (by decide) (by decide) hL7_2 lA7_2 (eA2 e7_2) rfl (by kernel_rfl) (th0 := [(0, .x 12)]) (sg0 := [(520, 500)]) (fun X => thXv (v := St' (seqS (rcJ (List.replicate (Int.toNat (512)) 0) (List.replicate (Int.toNat ((body % 2000) - 512)) 0) ((512 - (body % 2000)) % 8) 2 7) 0 35)) rfl rfl thNil) (by kernel_rfl) (by kernel_rfl)⟩) lfNil)) rfl (get_lps (by omega)) fiB4 (fun e => run27 e ) (args := [.int .u8 n, .int .u16 body]) (by simp only [RelL, Rel]; exact ⟨_, _, rfl, rfl, ⟨_, _, rfl, rfl, rfl⟩⟩) w hl
def hy28 : LK := [(.bin .rem (.x 0) (.i .u8 (.ofNat 6)), .i .u8 (.ofNat 5)),
  (.bin .rem (.x 1) (.i .u16 (.ofNat 2000)), .x 2),
  (.conv 3 (.x 2), .x 3),
  (.zer (.x 3), .x 4),
  (.len (.x 4), .x 5),
  (.bin .gtr (.x 5) (.i .i64 (.ofNat 512)), .b true),
  (.sub (.x 4) none (some (.i .i64 (.ofNat 512))), .x 6),
  (.len (.x 6), .i .i64 (.ofNat 512)),
  (.sub (.x 4) (some (.i .i64 (.ofNat 512))) none, .x 7),
  (.len (.x 7), .x 8),
  (.bin .gtr (.x 8) (.i .i64 (.ofNat 512)), .b true),
  (.sub (.x 7) none (some (.i .i64 (.ofNat 512))), .x 6),
  (.sub (.x 7) (some (.i .i64 (.ofNat 512))) none, .x 9),
  (.len (.x 9), .x 10),
  (.bin .gtr (.x 10) (.i .i64 (.ofNat 512)), .b false),
  (.bin .neq (.x 9) (.s 0 0), .b true),
  (.mm true (.x 10) (.i .i64 (.ofNat 0)), .x 11),
  (.un .neg (.x 11), .x 12),
  (.bin .and (.x 12) (.i .i64 (.ofNat 7)), .x 13),
  (.byt (.x 14) (.i .i64 (.ofNat 0)), .x 16),
  (.len (.x 14), .x 17),
  (.fit (.x 14), .b true),
  (.bin .neq (.x 15) (.s 0 0), .b false)]
def lhd57 : LH := ⟨4, 300, 500, [(6, .b ⟨80, .l [.sl 4 0 8 8 false, .p 5 0, .s 0 0, i6 0, .nils, .b false], 0, 0, 0, false, false⟩), (4, .b ⟨81, .l [.p 32 0, .p 60 0, .p 90 0, .p 122 0, .p 156 0, .p 192 0, .p 230 0, .nilp], 0, 0, 0, false, false⟩), (231, .b ⟨86, .l [.nilp, .nils], 0, 0, 0, false, false⟩), (32, lnK 1 31 0 6 0 false), (60, lnK 2 59 0 6 0 false), (90, lnK 3 89 0 6 0 false), (122, lnK 4 121 0 6 0 false), (156, lnK 5 155 0 6 0 false), (192, lnK 6 191 0 6 0 false), (230, lnK 7 229 0 6 0 false), (31, .b ⟨40, .l [i6 1, i6 1, .s 8 65792, i6 0, i6 4, i6 1, .s 0 0, i6 0, i6 5, i6 1, .x 6, i6 0, i6 5, i6 1, .x 6, i6 0, i6 5, i6 1, .x 9, .x 13, i6 5, i6 1, .s 0 0, i6 0], 24, 4, 0, false, true⟩), (59, .b ⟨40, .l [i6 1, i6 2, .s 8 65792, i6 0, i6 4, i6 2, .s 0 0, i6 0, i6 5, i6 2, .x 6, i6 0, i6 5, i6 2, .x 6, i6 0, i6 5, i6 2, .x 9, .x 13, i6 5, i6 2, .s 0 0, i6 0], 24, 4, 0, false, true⟩), (89, .b ⟨40, .l [i6 1, i6 3, .s 8 65792, i6 0, i6 4, i6 3, .s 0 0, i6 0, i6 5, i6 3, .x 6, i6 0, i6 5, i6 3, .x 6, i6 0, i6 5, i6 3, .x 9, .x 13, i6 5, i6 3, .s 0 0, i6 0], 24, 4, 0, false, true⟩), (121, .b ⟨40, .l [i6 1, i6 4, .s 8 65792, i6 0, i6 4, i6 4, .s 0 0, i6 0, i6 5, i6 4, .x 6, i6 0, i6 5, i6 4, .x 6, i6 0, i6 5, i6 4, .x 9, .x 13, i6 5, i6 4, .s 0 0, i6 0], 24, 4, 0, false, true⟩), (155, .b ⟨40, .l [i6 1, i6 5, .s 8 65792, i6 0, i6 4, i6 5, .s 0 0, i6 0, i6 5, i6 5, .x 6, i6 0, i6 5, i6 5, .x 6, i6 0, i6 5, i6 5, .x 9, .x 13, i6 5, i6 5, .s 0 0, i6 0], 24, 4, 0, false, true⟩), (191, .b ⟨40, .l [i6 1, i6 6, .s 8 65792, i6 0, i6 4, i6 6, .s 0 0, i6 0, i6 5, i6 6, .x 6, i6 0, i6 5, i6 6, .x 6, i6 0, i6 5, i6 6, .x 9, .x 13, i6 5, i6 6, .s 0 0, i6 0], 24, 4, 0, false, true⟩), (229, .b ⟨40, .l [i6 1, i6 7, .s 8 65792, i6 0, i6 4, i6 7, .s 0 0, i6 0, i6 5, i6 7, .x 6, i6 0, i6 5, i6 7, .x 6, i6 0, i6 5, i6 7, .x 9, .x 13, i6 5, i6 7, .s 0 0, i6 0], 24, 4, 0, false, true⟩)], [(6, .b ⟨80, .l [.sl 4 0 8 8 false, .p 5 0, .x 15, i6 7, .nils, .b false], 0, 0, 0, false, false⟩), (4, .b ⟨81, .l [.p 302 0, .p 304 0, .p 306 0, .p 308 0, .p 310 0, .p 312 0, .p 314 0, .nilp], 0, 0, 0, false, false⟩), (302, lnK 1 303 24 0 6 true), (303, .b ⟨40, .l [i6 1, i6 1, .s 8 65792, i6 0, i6 4, i6 1, .s 0 0, i6 0, i6 5, i6 1, .x 6, i6 0, i6 5, i6 1, .x 6, i6 0, i6 5, i6 1, .x 9, .x 13, i6 5, i6 1, .s 0 0, i6 0], 24, 4, 0, false, true⟩), (304, lnK 2 305 24 0 6 true), (305, .b ⟨40, .l [i6 1, i6 2, .s 8 65792, i6 0, i6 4, i6 2, .s 0 0, i6 0, i6 5, i6 2, .x 6, i6 0, i6 5, i6 2, .x 6, i6 0, i6 5, i6 2, .x 9, .x 13, i6 5, i6 2, .s 0 0, i6 0], 24, 4, 0, false, true⟩), (306, lnK 3 307 24 0 6 true), (307, .b ⟨40, .l [i6 1, i6 3, .s 8 65792, i6 0, i6 4, i6 3, .s 0 0, i6 0, i6 5, i6 3, .x 6, i6 0, i6 5, i6 3, .x 6, i6 0, i6 5, i6 3, .x 9, .x 13, i6 5, i6 3, .s 0 0, i6 0], 24, 4, 0, false, true⟩), (308, lnK 4 309 24 0 6 true), (309, .b ⟨40, .l [i6 1, i6 4, .s 8 65792, i6 0, i6 4, i6 4, .s 0 0, i6 0, i6 5, i6 4, .x 6, i6 0, i6 5, i6 4, .x 6, i6 0, i6 5, i6 4, .x 9, .x 13, i6 5, i6 4, .s 0 0, i6 0], 24, 4, 0, false, true⟩), (310, lnK 5 311 24 0 6 true), (311, .b ⟨40, .l [i6 1, i6 5, .s 8 65792, i6 0, i6 4, i6 5, .s 0 0, i6 0, i6 5, i6 5, .x 6, i6 0, i6 5, i6 5, .x 6, i6 0, i6 5, i6 5, .x 9, .x 13, i6 5, i6 5, .s 0 0, i6 0], 24, 4, 0, false, true⟩), (312, lnK 6 313 24 0 6 true), (313, .b ⟨40, .l [i6 1, i6 6, .s 8 65792, i6 0, i6 4, i6 6, .s 0 0, i6 0, i6 5, i6 6, .x 6, i6 0, i6 5, i6 6, .x 6, i6 0, i6 5, i6 6, .x 9, .x 13, i6 5, i6 6, .s 0 0, i6 0], 24, 4, 0, false, true⟩), (314, lnK 7 315 24 0 6 true), (315, .b ⟨40, .l [i6 1, i6 7, .s 8 65792, i6 0, i6 4, i6 7, .s 0 0, i6 0, i6 5, i6 7, .x 6, i6 0, i6 5, i6 7, .x 6, i6 0, i6 5, i6 7, .x 9, .x 13, i6 5, i6 7, .s 0 0, i6 0], 24, 4, 0, false, true⟩), (300, .b ⟨86, .l [.p 300 0, .sy 301], 0, 0, 0, false, false⟩), (301, .t 14 5)]⟩
def lfd57 : LF := ⟨2, 47, [(0, .p 6 0), (1, i6 1000000), (5, .p 231 0)], [], .exit 0, [(5, .p 300 0)], some lhd57⟩
def lhw58 : LH := ⟨4, 520, 580, [(500, .b ⟨38, .l [i6 0, i6 0, i6 0, i6 0, i6 0, i6 0, i6 0, i6 0, i6 0], 0, 0, 0, false, false⟩)], []⟩
def lfw58 : LF := ⟨11, 91, [(5, i6 7), (6, .p 6 0), (8, .x 14), (9, .p 500 0)], [], .exit 2, [(6, .p 6 0)], some lhw58⟩
noncomputable def tab28 : Tab := addLps (addLps ({ tabk with hyp := hy28 }) 14 fi14 [lfd57]) 4 fi4 [lfw58]
theorem run28 (e : Nat) : Go.AX.okB (call tab28 9000 4 [.x 0, .x 1] ⟨H0 e , 4, 0, 0⟩) = true := by kernel_rfl
def nu28 (n : Int) (body : Int) : List Value := [.int .u8 (n),
  .int .u16 (body),
  .int .u16 (body % 2000),
  .int .i64 ((body % 2000)),
  St' (List.replicate (Int.toNat ((body % 2000))) 0),
  .int .i64 ((body % 2000)),
  St' (List.replicate (Int.toNat (512)) 0),
  St' (List.replicate (Int.toNat ((body % 2000) - 512)) 0),
  .int .i64 ((body % 2000) - 512),
  St' (List.replicate (Int.toNat ((body % 2000) - 1024)) 0),
  .int .i64 ((body % 2000) - 1024),
  .int .i64 ((body % 2000) - 1024),
  .int .i64 (1024 - (body % 2000)),
  .int .i64 ((1024 - (body % 2000)) % 8),
  St' (seqS (rcJ (List.replicate (Int.toNat (512)) 0) (List.replicate (Int.toNat ((body % 2000) - 1024)) 0) ((1024 - (body % 2000)) % 8) 3 7) 0 42),
  St' ([] : LB),
  .int .u8 (bt (seqS (rcJ (List.replicate (Int.toNat (512)) 0) (List.replicate (Int.toNat ((body % 2000) - 1024)) 0) ((1024 - (body % 2000)) % 8) 3 7) 0 42) 0),
  .int .i64 (((seqS (rcJ (List.replicate (Int.toNat (512)) 0) (List.replicate (Int.toNat ((body % 2000) - 1024)) 0) ((1024 - (body % 2000)) % 8) 3 7) 0 42).length : Int))]
theorem one28 (n : Int) (body : Int) : ∀ j, j < 1000000 → (nuL (nu28 n body) j).oneCell' = true := fun j _ => nuL_one (l := nu28 n body) rfl j
theorem path28 (n : Int) (body : Int) (b0 : 0 ≤ n) (b1 : n ≤ 255) (b2 : 0 ≤ body) (b3 : body ≤ 65535) (h0 : (n) % 6 = 5) (h1 : 512 < (body % 2000)) (h2 : 512 < (body % 2000) - 512) (h3 : ¬ (512 < (body % 2000) - 1024)) (w : World) (hl : laidE w) : CwR 4 #[.int .u8 n, .int .u16 body] w (.bool true) := by
  have hout := out_bd (List.replicate (Int.toNat (512)) 0) (List.replicate (Int.toNat ((body % 2000) - 1024)) 0) ((1024 - (body % 2000)) % 8) (by first | (simp; done) | (rw [List.length_replicate]; omega)) (by first | (simp; done) | (rw [List.length_replicate]; omega)) (by omega) (by omega) 3 7 42 (by decide) (by decide)
  have := bt_lo (seqS (rcJ (List.replicate (Int.toNat (512)) 0) (List.replicate (Int.toNat ((body % 2000) - 1024)) 0) ((1024 - (body % 2000)) % 8) 3 7) 0 42) 0; have := bt_hi (seqS (rcJ (List.replicate (Int.toNat (512)) 0) (List.replicate (Int.toNat ((body % 2000) - 1024)) 0) ((1024 - (body % 2000)) % 8) 3 7) 0 42) 0
  have ho : ∀ k r, (k, r) ∈ hy28 → HOk (cx (nuL (nu28 n body)) (one28 n body) 1 laidE laidE_stab) k r := by
    unfold hy28
    exact hc (kRem (isX rfl) (isZ (m := 6) rfl) (denZ (m := 5) rfl) (by omega) (by omega) (by omega)) <|
     hc (kRem (isX rfl) (isZ (m := 2000) rfl) (denX rfl) (by omega) (by omega) rfl) <|
     hc (kConvF (isX rfl) tu3 (denX rfl) (fI64 (by omega) (by omega))) <|
     hc (kZer (isX rfl) (by omega) (by omega) (denX rfl)) <|
     hc (lnV rfl rfl (by first | omega | (simp <;> omega))) <|
     hc (gtcT rfl (by omega)) <|
     hc (kMidR (E := (body % 2000)) (P := 0) (Q := 512) (isX rfl) (.inl ⟨rfl, rfl⟩) (.inr ⟨_, _, rfl, (isZ (m := 512) rfl)⟩) (by omega) (by omega) (by omega) (denX (congrArg (fun k : Int => St' (List.replicate k.toNat 0)) (show (512 : Int) = 512 - (0) by omega)))) <|
     hc (kLenE (isX rfl) (denZ (m := 512) rfl) (by first | omega | (simp <;> omega))) <|
     hc (kMidR (E := (body % 2000)) (P := 512) (Q := (body % 2000)) (isX rfl) (.inr ⟨_, _, rfl, (isZ (m := 512) rfl)⟩) (.inl ⟨rfl, by first | omega | (simp <;> omega)⟩) (by omega) (by omega) (by omega) (denX (congrArg (fun k : Int => St' (List.replicate k.toNat 0)) (show ((body % 2000) - 512 : Int) = (body % 2000) - (512) by omega)))) <|
     hc (lnV rfl rfl (by first | omega | (simp <;> omega))) <|
     hc (gtcT rfl (by omega)) <|
     hc (kMidR (E := (body % 2000) - 512) (P := 0) (Q := 512) (isX rfl) (.inl ⟨rfl, rfl⟩) (.inr ⟨_, _, rfl, (isZ (m := 512) rfl)⟩) (by omega) (by omega) (by omega) (denX (congrArg (fun k : Int => St' (List.replicate k.toNat 0)) (show (512 : Int) = 512 - (0) by omega)))) <|
     hc (kMidR (E := (body % 2000) - 512) (P := 512) (Q := (body % 2000) - 512) (isX rfl) (.inr ⟨_, _, rfl, (isZ (m := 512) rfl)⟩) (.inl ⟨rfl, by first | omega | (simp <;> omega)⟩) (by omega) (by omega) (by omega) (denX (congrArg (fun k : Int => St' (List.replicate k.toNat 0)) (show ((body % 2000) - 1024 : Int) = (body % 2000) - 512 - (512) by omega)))) <|
     hc (lnV rfl rfl (by first | omega | (simp <;> omega))) <|
     hc (gtcF rfl (by omega)) <|
     hc (kNeS (isX rfl) (isSx (l := ([] : LB)) 0 0 rfl) (bnT (nilF (by rw [List.length_replicate]; omega)))) <|
     hc (kMax (isX rfl) (isZ (m := 0) rfl) (denX rfl) (by omega)) <|
     hc (kNeg (isX rfl) (denX rfl) (by omega) (fI64 (by omega) (by omega))) <|
     hc (kAndG 3 8 rfl (by decide) (isX rfl) (isZ (m := 7) rfl) (denX rfl) (fI64 (by omega) (by omega)) rfl rfl (fI64 (by omega) (by omega))) <|
     hc (kByt (i := 0) (isX rfl) (isZ (m := 0) rfl) (denX rfl) rfl (by first | omega | (simp <;> omega)) rfl) <|
     hc (lnV rfl rfl (by omega)) <|
     hc (kFit (isX rfl) (by first | omega | (simp <;> omega))) <|
     hc (kNeS (isX rfl) (isSx (l := ([] : LB)) 0 0 rfl) (bnF (decide_eq_true rfl))) <|
     hnil
  exact runP (tb := tab28) (AllOk.lp1 (AllOk.lp1 ((tabkOk (nuL (nu28 n body)) (one28 n body)).hyps ho) (by omega) fi14_at fi14_body (lfCons (lpKnown rfl ⟨0, keyD, lfOkD (l := lfd57) (h := lhd57) (List.replicate (Int.toNat (512)) 0) (List.replicate (Int.toNat ((body % 2000) - 1024)) 0) ((1024 - (body % 2000)) % 8) (by first | (simp; done) | (rw [List.length_replicate]; omega)) (by first | (simp; done) | (rw [List.length_replicate]; omega)) (by omega) (by omega) 7 3 42 (by decide) (by decide) (by decide) (by decide) hD7_3 dA7_3 (eA1 e7_3) rfl (by kernel_rfl) (th0 := [(1, .i .i64 (.ofNat 1000000)), (2, .s 0 0), (3, .x 6), (4, .x 9), (5, .x 13)]) (sg0 := [(300, 231), (302, 32), (304, 60), (306, 90), (308, 122), (310, 156), (312, 192), (314, 230), (303, 31), (305, 59), (307, 89), (309, 121), (311, 155), (313, 191), (315, 229)]) (fun X => thCons (show Is _ (.i .i64 (.ofNat 1000000)) (.int .i64 1000000) from isI _ _) (thCons (show Is _ (.s 0 0) (St' []) from isSx (l := []) 0 0 rfl) (thXv (v := St' (List.replicate (Int.toNat (512)) 0)) rfl rfl (thXv (v := St' (List.replicate (Int.toNat ((body % 2000) - 1024)) 0)) rfl rfl (thXv (v := .int .i64 ((1024 - (body % 2000)) % 8)) rfl rfl thNil))))) (by kernel_rfl) (thx := [(14, .x 0), (15, .x 2), (6, .x 3), (9, .x 4), (13, .x 5)]) (thXv (v := St' (seqS (rcJ (List.replicate (Int.toNat (512)) 0) (List.replicate (Int.toNat ((body % 2000) - 1024)) 0) ((1024 - (body % 2000)) % 8) 3 7) 0 42)) rfl rfl (thXv (v := St' []) rfl rfl (thXv (v := St' (List.replicate (Int.toNat (512)) 0)) rfl rfl (thXv (v := St' (List.replicate (Int.toNat ((body % 2000) - 1024)) 0)) rfl rfl (thXv (v := .int .i64 ((1024 - (body % 2000)) % 8)) rfl rfl (thNil)))))) (by kernel_rfl)⟩) lfNil)) (by omega) (get_lps2 (by omega) (by omega) fi4_at) fi4_body (lfCons (lpKnown rfl ⟨1, keyL, lfOkW (l := lfw58) (h := lhw58) (List.replicate (Int.toNat (512)) 0) (List.replicate (Int.toNat ((body % 2000) - 1024)) 0) ((1024 - (body % 2000)) % 8) (by first | (simp; done) | (rw [List.length_replicate]; omega)) (by first | (simp; done) | (rw [List.length_replicate]; omega)) (by omega) (by omega) 7 3 42 (by decide) (by decide) (by decide) hL7_3 lA7_3 (eA2 e7_3) rfl (by kernel_rfl) (th0 := [(0, .x 14)]) (sg0 := [(520, 500)]) (fun X => thXv (v := St' (seqS (rcJ (List.replicate (Int.toNat (512)) 0) (List.replicate (Int.toNat ((body % 2000) - 1024)) 0) ((1024 - (body % 2000)) % 8) 3 7) 0 42)) rfl rfl thNil) (by kernel_rfl) (by kernel_rfl)⟩) lfNil)) rfl (get_lps (by omega)) fiB4 (fun e => run28 e ) (args := [.int .u8 n, .int .u16 body]) (by simp only [RelL, Rel]; exact ⟨_, _, rfl, rfl, ⟨_, _, rfl, rfl, rfl⟩⟩) w hl
def hy29 : LK := [(.bin .rem (.x 0) (.i .u8 (.ofNat 6)), .i .u8 (.ofNat 5)),
  (.bin .rem (.x 1) (.i .u16 (.ofNat 2000)), .x 2),
  (.conv 3 (.x 2), .x 3),
  (.zer (.x 3), .x 4),
  (.len (.x 4), .x 5),
  (.bin .gtr (.x 5) (.i .i64 (.ofNat 512)), .b true),
  (.sub (.x 4) none (some (.i .i64 (.ofNat 512))), .x 6),
  (.len (.x 6), .i .i64 (.ofNat 512)),
  (.sub (.x 4) (some (.i .i64 (.ofNat 512))) none, .x 7),
  (.len (.x 7), .x 8),
  (.bin .gtr (.x 8) (.i .i64 (.ofNat 512)), .b true),
  (.sub (.x 7) none (some (.i .i64 (.ofNat 512))), .x 6),
  (.sub (.x 7) (some (.i .i64 (.ofNat 512))) none, .x 9),
  (.len (.x 9), .x 10),
  (.bin .gtr (.x 10) (.i .i64 (.ofNat 512)), .b true),
  (.sub (.x 9) none (some (.i .i64 (.ofNat 512))), .x 6),
  (.sub (.x 9) (some (.i .i64 (.ofNat 512))) none, .x 11),
  (.len (.x 11), .x 12),
  (.bin .gtr (.x 12) (.i .i64 (.ofNat 512)), .b false),
  (.bin .neq (.x 11) (.s 0 0), .b true),
  (.mm true (.x 12) (.i .i64 (.ofNat 0)), .x 13),
  (.un .neg (.x 13), .x 14),
  (.bin .and (.x 14) (.i .i64 (.ofNat 7)), .x 15),
  (.byt (.x 16) (.i .i64 (.ofNat 0)), .x 18),
  (.len (.x 16), .x 19),
  (.fit (.x 16), .b true),
  (.bin .neq (.x 17) (.s 0 0), .b false)]
def lhd59 : LH := ⟨4, 300, 500, [(6, .b ⟨80, .l [.sl 4 0 8 8 false, .p 5 0, .s 0 0, i6 0, .nils, .b false], 0, 0, 0, false, false⟩), (4, .b ⟨81, .l [.p 35 0, .p 66 0, .p 99 0, .p 134 0, .p 171 0, .p 210 0, .p 251 0, .nilp], 0, 0, 0, false, false⟩), (252, .b ⟨86, .l [.nilp, .nils], 0, 0, 0, false, false⟩), (35, lnK 1 34 0 7 0 false), (66, lnK 2 65 0 7 0 false), (99, lnK 3 98 0 7 0 false), (134, lnK 4 133 0 7 0 false), (171, lnK 5 170 0 7 0 false), (210, lnK 6 209 0 7 0 false), (251, lnK 7 250 0 7 0 false), (34, .b ⟨40, .l [i6 1, i6 1, .s 8 65792, i6 0, i6 4, i6 1, .s 0 0, i6 0, i6 5, i6 1, .x 6, i6 0, i6 5, i6 1, .x 6, i6 0, i6 5, i6 1, .x 6, i6 0, i6 5, i6 1, .x 11, .x 15, i6 5, i6 1, .s 0 0, i6 0], 28, 4, 0, false, true⟩), (65, .b ⟨40, .l [i6 1, i6 2, .s 8 65792, i6 0, i6 4, i6 2, .s 0 0, i6 0, i6 5, i6 2, .x 6, i6 0, i6 5, i6 2, .x 6, i6 0, i6 5, i6 2, .x 6, i6 0, i6 5, i6 2, .x 11, .x 15, i6 5, i6 2, .s 0 0, i6 0], 28, 4, 0, false, true⟩), (98, .b ⟨40, .l [i6 1, i6 3, .s 8 65792, i6 0, i6 4, i6 3, .s 0 0, i6 0, i6 5, i6 3, .x 6, i6 0, i6 5, i6 3, .x 6, i6 0, i6 5, i6 3, .x 6, i6 0, i6 5, i6 3, .x 11, .x 15, i6 5, i6 3, .s 0 0, i6 0], 28, 4, 0, false, true⟩), (133, .b ⟨40, .l [i6 1, i6 4, .s 8 65792, i6 0, i6 4, i6 4, .s 0 0, i6 0, i6 5, i6 4, .x 6, i6 0, i6 5, i6 4, .x 6, i6 0, i6 5, i6 4, .x 6, i6 0, i6 5, i6 4, .x 11, .x 15, i6 5, i6 4, .s 0 0, i6 0], 28, 4, 0, false, true⟩), (170, .b ⟨40, .l [i6 1, i6 5, .s 8 65792, i6 0, i6 4, i6 5, .s 0 0, i6 0, i6 5, i6 5, .x 6, i6 0, i6 5, i6 5, .x 6, i6 0, i6 5, i6 5, .x 6, i6 0, i6 5, i6 5, .x 11, .x 15, i6 5, i6 5, .s 0 0, i6 0], 28, 4, 0, false, true⟩), (209, .b ⟨40, .l [i6 1, i6 6, .s 8 65792, i6 0, i6 4, i6 6, .s 0 0, i6 0, i6 5, i6 6, .x 6, i6 0, i6 5, i6 6, .x 6, i6 0, i6 5, i6 6, .x 6, i6 0, i6 5, i6 6, .x 11, .x 15, i6 5, i6 6, .s 0 0, i6 0], 28, 4, 0, false, true⟩), (250, .b ⟨40, .l [i6 1, i6 7, .s 8 65792, i6 0, i6 4, i6 7, .s 0 0, i6 0, i6 5, i6 7, .x 6, i6 0, i6 5, i6 7, .x 6, i6 0, i6 5, i6 7, .x 6, i6 0, i6 5, i6 7, .x 11, .x 15, i6 5, i6 7, .s 0 0, i6 0], 28, 4, 0, false, true⟩)], [(6, .b ⟨80, .l [.sl 4 0 8 8 false, .p 5 0, .x 17, i6 7, .nils, .b false], 0, 0, 0, false, false⟩), (4, .b ⟨81, .l [.p 302 0, .p 304 0, .p 306 0, .p 308 0, .p 310 0, .p 312 0, .p 314 0, .nilp], 0, 0, 0, false, false⟩), (302, lnK 1 303 28 0 7 true), (303, .b ⟨40, .l [i6 1, i6 1, .s 8 65792, i6 0, i6 4, i6 1, .s 0 0, i6 0, i6 5, i6 1, .x 6, i6 0, i6 5, i6 1, .x 6, i6 0, i6 5, i6 1, .x 6, i6 0, i6 5, i6 1, .x 11, .x 15, i6 5, i6 1, .s 0 0, i6 0], 28, 4, 0, false, true⟩), (304, lnK 2 305 28 0 7 true), (305, .b ⟨40, .l [i6 1, i6 2, .s 8 65792, i6 0, i6 4, i6 2, .s 0 0, i6 0, i6 5, i6 2, .x 6, i6 0, i6 5, i6 2, .x 6, i6 0, i6 5, i6 2, .x 6, i6 0, i6 5, i6 2, .x 11, .x 15, i6 5, i6 2, .s 0 0, i6 0], 28, 4, 0, false, true⟩), (306, lnK 3 307 28 0 7 true), (307, .b ⟨40, .l [i6 1, i6 3, .s 8 65792, i6 0, i6 4, i6 3, .s 0 0, i6 0, i6 5, i6 3, .x 6, i6 0, i6 5, i6 3, .x 6, i6 0, i6 5, i6 3, .x 6, i6 0, i6 5, i6 3, .x 11, .x 15, i6 5, i6 3, .s 0 0, i6 0], 28, 4, 0, false, true⟩), (308, lnK 4 309 28 0 7 true), (309, .b ⟨40, .l [i6 1, i6 4, .s 8 65792, i6 0, i6 4, i6 4, .s 0 0, i6 0, i6 5, i6 4, .x 6, i6 0, i6 5, i6 4, .x 6, i6 0, i6 5, i6 4, .x 6, i6 0, i6 5, i6 4, .x 11, .x 15, i6 5, i6 4, .s 0 0, i6 0], 28, 4, 0, false, true⟩), (310, lnK 5 311 28 0 7 true), (311, .b ⟨40, .l [i6 1, i6 5, .s 8 65792, i6 0, i6 4, i6 5, .s 0 0, i6 0, i6 5, i6 5, .x 6, i6 0, i6 5, i6 5, .x 6, i6 0, i6 5, i6 5, .x 6, i6 0, i6 5, i6 5, .x 11, .x 15, i6 5, i6 5, .s 0 0, i6 0], 28, 4, 0, false, true⟩), (312, lnK 6 313 28 0 7 true), (313, .b ⟨40, .l [i6 1, i6 6, .s 8 65792, i6 0, i6 4, i6 6, .s 0 0, i6 0, i6 5, i6 6, .x 6, i6 0, i6 5, i6 6, .x 6, i6 0, i6 5, i6 6, .x 6, i6 0, i6 5, i6 6, .x 11, .x 15, i6 5, i6 6, .s 0 0, i6 0], 28, 4, 0, false, true⟩), (314, lnK 7 315 28 0 7 true), (315, .b ⟨40, .l [i6 1, i6 7, .s 8 65792, i6 0, i6 4, i6 7, .s 0 0, i6 0, i6 5, i6 7, .x 6, i6 0, i6 5, i6 7, .x 6, i6 0, i6 5, i6 7, .x 6, i6 0, i6 5, i6 7, .x 11, .x 15, i6 5, i6 7, .s 0 0, i6 0], 28, 4, 0, false, true⟩), (300, .b ⟨86, .l [.p 300 0, .sy 301], 0, 0, 0, false, false⟩), (301, .t 16 5)]⟩
def lfd59 : LF := ⟨2, 47, [(0, .p 6 0), (1, i6 1000000), (5, .p 252 0)], [], .exit 0, [(5, .p 300 0)], some lhd59⟩
def lhw60 : LH := ⟨4, 520, 580, [(500, .b ⟨38, .l [i6 0, i6 0, i6 0, i6 0, i6 0, i6 0, i6 0, i6 0, i6 0], 0, 0, 0, false, false⟩)], []⟩
def lfw60 : LF := ⟨11, 91, [(5, i6 7), (6, .p 6 0), (8, .x 16), (9, .p 500 0)], [], .exit 2, [(6, .p 6 0)], some lhw60⟩
noncomputable def tab29 : Tab := addLps (addLps ({ tabk with hyp := hy29 }) 14 fi14 [lfd59]) 4 fi4 [lfw60]
theorem run29 (e : Nat) : Go.AX.okB (call tab29 9000 4 [.x 0, .x 1] ⟨H0 e , 4, 0, 0⟩) = true := by kernel_rfl
def nu29 (n : Int) (body : Int) : List Value := [.int .u8 (n),
  .int .u16 (body),
  .int .u16 (body % 2000),
  .int .i64 ((body % 2000)),
  St' (List.replicate (Int.toNat ((body % 2000))) 0),
  .int .i64 ((body % 2000)),
  St' (List.replicate (Int.toNat (512)) 0),
  St' (List.replicate (Int.toNat ((body % 2000) - 512)) 0),
  .int .i64 ((body % 2000) - 512),
  St' (List.replicate (Int.toNat ((body % 2000) - 1024)) 0),
  .int .i64 ((body % 2000) - 1024),
  St' (List.replicate (Int.toNat ((body % 2000) - 1536)) 0),
  .int .i64 ((body % 2000) - 1536),
  .int .i64 ((body % 2000) - 1536),
  .int .i64 (1536 - (body % 2000)),
  .int .i64 ((1536 - (body % 2000)) % 8),
  St' (seqS (rcJ (List.replicate (Int.toNat (512)) 0) (List.replicate (Int.toNat ((body % 2000) - 1536)) 0) ((1536 - (body % 2000)) % 8) 4 7) 0 49),
  St' ([] : LB),
  .int .u8 (bt (seqS (rcJ (List.replicate (Int.toNat (512)) 0) (List.replicate (Int.toNat ((body % 2000) - 1536)) 0) ((1536 - (body % 2000)) % 8) 4 7) 0 49) 0),
  .int .i64 (((seqS (rcJ (List.replicate (Int.toNat (512)) 0) (List.replicate (Int.toNat ((body % 2000) - 1536)) 0) ((1536 - (body % 2000)) % 8) 4 7) 0 49).length : Int))]
theorem one29 (n : Int) (body : Int) : ∀ j, j < 1000000 → (nuL (nu29 n body) j).oneCell' = true := fun j _ => nuL_one (l := nu29 n body) rfl j
theorem path29 (n : Int) (body : Int) (b0 : 0 ≤ n) (b1 : n ≤ 255) (b2 : 0 ≤ body) (b3 : body ≤ 65535) (h0 : (n) % 6 = 5) (h1 : 512 < (body % 2000)) (h2 : 512 < (body % 2000) - 512) (h3 : 512 < (body % 2000) - 1024) (w : World) (hl : laidE w) : CwR 4 #[.int .u8 n, .int .u16 body] w (.bool true) := by
  have hout := out_bd (List.replicate (Int.toNat (512)) 0) (List.replicate (Int.toNat ((body % 2000) - 1536)) 0) ((1536 - (body % 2000)) % 8) (by first | (simp; done) | (rw [List.length_replicate]; omega)) (by first | (simp; done) | (rw [List.length_replicate]; omega)) (by omega) (by omega) 4 7 49 (by decide) (by decide)
  have := bt_lo (seqS (rcJ (List.replicate (Int.toNat (512)) 0) (List.replicate (Int.toNat ((body % 2000) - 1536)) 0) ((1536 - (body % 2000)) % 8) 4 7) 0 49) 0; have := bt_hi (seqS (rcJ (List.replicate (Int.toNat (512)) 0) (List.replicate (Int.toNat ((body % 2000) - 1536)) 0) ((1536 - (body % 2000)) % 8) 4 7) 0 49) 0
  have ho : ∀ k r, (k, r) ∈ hy29 → HOk (cx (nuL (nu29 n body)) (one29 n body) 1 laidE laidE_stab) k r := by
    unfold hy29
    exact hc (kRem (isX rfl) (isZ (m := 6) rfl) (denZ (m := 5) rfl) (by omega) (by omega) (by omega)) <|
     hc (kRem (isX rfl) (isZ (m := 2000) rfl) (denX rfl) (by omega) (by omega) rfl) <|
     hc (kConvF (isX rfl) tu3 (denX rfl) (fI64 (by omega) (by omega))) <|
     hc (kZer (isX rfl) (by omega) (by omega) (denX rfl)) <|
     hc (lnV rfl rfl (by first | omega | (simp <;> omega))) <|
     hc (gtcT rfl (by omega)) <|
     hc (kMidR (E := (body % 2000)) (P := 0) (Q := 512) (isX rfl) (.inl ⟨rfl, rfl⟩) (.inr ⟨_, _, rfl, (isZ (m := 512) rfl)⟩) (by omega) (by omega) (by omega) (denX (congrArg (fun k : Int => St' (List.replicate k.toNat 0)) (show (512 : Int) = 512 - (0) by omega)))) <|
     hc (kLenE (isX rfl) (denZ (m := 512) rfl) (by first | omega | (simp <;> omega))) <|
     hc (kMidR (E := (body % 2000)) (P := 512) (Q := (body % 2000)) (isX rfl) (.inr ⟨_, _, rfl, (isZ (m := 512) rfl)⟩) (.inl ⟨rfl, by first | omega | (simp <;> omega)⟩) (by omega) (by omega) (by omega) (denX (congrArg (fun k : Int => St' (List.replicate k.toNat 0)) (show ((body % 2000) - 512 : Int) = (body % 2000) - (512) by omega)))) <|
     hc (lnV rfl rfl (by first | omega | (simp <;> omega))) <|
     hc (gtcT rfl (by omega)) <|
     hc (kMidR (E := (body % 2000) - 512) (P := 0) (Q := 512) (isX rfl) (.inl ⟨rfl, rfl⟩) (.inr ⟨_, _, rfl, (isZ (m := 512) rfl)⟩) (by omega) (by omega) (by omega) (denX (congrArg (fun k : Int => St' (List.replicate k.toNat 0)) (show (512 : Int) = 512 - (0) by omega)))) <|
     hc (kMidR (E := (body % 2000) - 512) (P := 512) (Q := (body % 2000) - 512) (isX rfl) (.inr ⟨_, _, rfl, (isZ (m := 512) rfl)⟩) (.inl ⟨rfl, by first | omega | (simp <;> omega)⟩) (by omega) (by omega) (by omega) (denX (congrArg (fun k : Int => St' (List.replicate k.toNat 0)) (show ((body % 2000) - 1024 : Int) = (body % 2000) - 512 - (512) by omega)))) <|
     hc (lnV rfl rfl (by first | omega | (simp <;> omega))) <|
     hc (gtcT rfl (by omega)) <|
     hc (kMidR (E := (body % 2000) - 1024) (P := 0) (Q := 512) (isX rfl) (.inl ⟨rfl, rfl⟩) (.inr ⟨_, _, rfl, (isZ (m := 512) rfl)⟩) (by omega) (by omega) (by omega) (denX (congrArg (fun k : Int => St' (List.replicate k.toNat 0)) (show (512 : Int) = 512 - (0) by omega)))) <|
     hc (kMidR (E := (body % 2000) - 1024) (P := 512) (Q := (body % 2000) - 1024) (isX rfl) (.inr ⟨_, _, rfl, (isZ (m := 512) rfl)⟩) (.inl ⟨rfl, by first | omega | (simp <;> omega)⟩) (by omega) (by omega) (by omega) (denX (congrArg (fun k : Int => St' (List.replicate k.toNat 0)) (show ((body % 2000) - 1536 : Int) = (body % 2000) - 1024 - (512) by omega)))) <|
     hc (lnV rfl rfl (by first | omega | (simp <;> omega))) <|
     hc (gtcF rfl (by omega)) <|
     hc (kNeS (isX rfl) (isSx (l := ([] : LB)) 0 0 rfl) (bnT (nilF (by rw [List.length_replicate]; omega)))) <|
     hc (kMax (isX rfl) (isZ (m := 0) rfl) (denX rfl) (by omega)) <|
     hc (kNeg (isX rfl) (denX rfl) (by omega) (fI64 (by omega) (by omega))) <|
     hc (kAndG 3 8 rfl (by decide) (isX rfl) (isZ (m := 7) rfl) (denX rfl) (fI64 (by omega) (by omega)) rfl rfl (fI64 (by omega) (by omega))) <|
     hc (kByt (i := 0) (isX rfl) (isZ (m := 0) rfl) (denX rfl) rfl (by first | omega | (simp <;> omega)) rfl) <|
     hc (lnV rfl rfl (by omega)) <|
     hc (kFit (isX rfl) (by first | omega | (simp <;> omega))) <|
     hc (kNeS (isX rfl) (isSx (l := ([] : LB)) 0 0 rfl) (bnF (decide_eq_true rfl))) <|
     hnil
  exact runP (tb := tab29) (AllOk.lp1 (AllOk.lp1 ((tabkOk (nuL (nu29 n body)) (one29 n body)).hyps ho) (by omega) fi14_at fi14_body (lfCons (lpKnown rfl ⟨0, keyD, lfOkD (l := lfd59) (h := lhd59) (List.replicate (Int.toNat (512)) 0) (List.replicate (Int.toNat ((body % 2000) - 1536)) 0) ((1536 - (body % 2000)) % 8) (by first | (simp; done) | (rw [List.length_replicate]; omega)) (by first | (simp; done) | (rw [List.length_replicate]; omega)) (by omega) (by omega) 7 4 49 (by decide) (by decide) (by decide) (by decide) hD7_4 dA7_4 (eA1 e7_4) rfl (by kernel_rfl) (th0 := [(1, .i .i64 (.ofNat 1000000)), (2, .s 0 0), (3, .x 6), (4, .x 11), (5, .x 15)]) (sg0 := [(300, 252), (302, 35), (304, 66), (306, 99), (308, 134), (310, 171), (312, 210), (314, 251), (303, 34), (305, 65), (307, 98), (309, 133), (311, 170), (313, 209), (315, 250)]) (fun X => thCons (show Is _ (.i .i64 (.ofNat 1000000)) (.int .i64 1000000) from isI _ _) (thCons (show Is _ (.s 0 0) (St' []) from isSx (l := []) 0 0 rfl) (thXv (v := St' (List.replicate (Int.toNat (512)) 0)) rfl rfl (thXv (v := St' (List.replicate (Int.toNat ((body % 2000) - 1536)) 0)) rfl rfl (thXv (v := .int .i64 ((1536 - (body % 2000)) % 8)) rfl rfl thNil))))) (by kernel_rfl) (thx := [(16, .x 0), (17, .x 2), (6, .x 3), (11, .x 4), (15, .x 5)]) (thXv (v := St' (seqS (rcJ (List.replicate (Int.toNat (512)) 0) (List.replicate (Int.toNat ((body % 2000) - 1536)) 0) ((1536 - (body % 2000)) % 8) 4 7) 0 49)) rfl rfl (thXv (v := St' []) rfl rfl (thXv (v := St' (List.replicate (Int.toNat (512)) 0)) rfl rfl (thXv (v := St' (List.replicate (Int.toNat ((body % 2000) - 1536)) 0)) rfl rfl (thXv (v := .int .i64 ((1536 - (body % 2000)) % 8)) rfl rfl (thNil)))))) (by kernel_rfl)⟩) lfNil)) (by omega) (get_lps2 (by omega) (by omega) fi4_at) fi4_body (lfCons (lpKnown rfl ⟨1, keyL, lfOkW (l := lfw60) (h := lhw60) (List.replicate (Int.toNat (512)) 0) (List.replicate (Int.toNat ((body % 2000) - 1536)) 0) ((1536 - (body % 2000)) % 8) (by first | (simp; done) | (rw [List.length_replicate]; omega)) (by first | (simp; done) | (rw [List.length_replicate]; omega)) (by omega) (by omega) 7 4 49 (by decide) (by decide) (by decide) hL7_4 lA7_4 (eA2 e7_4) rfl (by kernel_rfl) (th0 := [(0, .x 16)]) (sg0 := [(520, 500)]) (fun X => thXv (v := St' (seqS (rcJ (List.replicate (Int.toNat (512)) 0) (List.replicate (Int.toNat ((body % 2000) - 1536)) 0) ((1536 - (body % 2000)) % 8) 4 7) 0 49)) rfl rfl thNil) (by kernel_rfl) (by kernel_rfl)⟩) lfNil)) rfl (get_lps (by omega)) fiB4 (fun e => run29 e ) (args := [.int .u8 n, .int .u16 body]) (by simp only [RelL, Rel]; exact ⟨_, _, rfl, rfl, ⟨_, _, rfl, rfl, rfl⟩⟩) w hl
end Go.Proofs.YtkhcgoeccmkmdaaGreatDoor.muxFair
