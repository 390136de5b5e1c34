/- A part of the proof: an interpreter of the model's own code on partly known states, and that what it answers is what the program answers. No condition of its own. -/
import Derived.Test.YtkhcgoeccmkmdaaGreatDoorM1MuxFairQ
set_option maxRecDepth 100000
set_option linter.unusedVariables false
set_option linter.unusedSimpArgs false
set_option maxHeartbeats 4000000
namespace Go.Proofs.YtkhcgoeccmkmdaaGreatDoor.muxFair
open Go Go.AX Go.Proofs Go.Proofs.YtkhcgoeccmkmdaaGreatDoor
def hy9 : LK := [(.bin .rem (.x 0) (.i .u8 (.ofNat 6)), .i .u8 (.ofNat 1)),
  (.bin .rem (.x 1) (.i .u16 (.ofNat 2000)), .x 2),
  (.conv 3 (.x 2), .x 3),
  (.zer (.x 3), .x 4),
  (.len (.x 4), .x 5),
  (.bin .gtr (.x 5) (.i .i64 (.ofNat 512)), .b true),
  (.sub (.x 4) none (some (.i .i64 (.ofNat 512))), .x 6),
  (.len (.x 6), .i .i64 (.ofNat 512)),
  (.sub (.x 4) (some (.i .i64 (.ofNat 512))) none, .x 7),
  (.len (.x 7), .x 8),
  (.bin .gtr (.x 8) (.i .i64 (.ofNat 512)), .b true),
  (.sub (.x 7) none (some (.i .i64 (.ofNat 512))), .x 6),
  (.sub (.x 7) (some (.i .i64 (.ofNat 512))) none, .x 9),
  (.len (.x 9), .x 10),
  (.bin .gtr (.x 10) (.i .i64 (.ofNat 512)), .b true),
  (.sub (.x 9) none (some (.i .i64 (.ofNat 512))), .x 6),
  (.sub (.x 9) (some (.i .i64 (.ofNat 512))) none, .x 11),
  (.len (.x 11), .x 12),
  (.bin .gtr (.x 12) (.i .i64 (.ofNat 512)), .b false),
  (.bin .neq (.x 11) (.s 0 0), .b true),
  (.mm true (.x 12) (.i .i64 (.ofNat 0)), .x 13),
  (.un .neg (.x 13), .x 14),
  (.bin .and (.x 14) (.i .i64 (.ofNat 7)), .x 15),
  (.byt (.x 16) (.i .i64 (.ofNat 0)), .x 18),
  (.len (.x 16), .x 19),
  (.fit (.x 16), .b true),
  (.bin .neq (.x 17) (.s 0 0), .b false)]
def lhd19 : LH := ⟨4, 300, 500, [(6, .b ⟨80, .l [.sl 4 0 8 8 false, .p 5 0, .s 0 0, i6 0, .nils, .b false], 0, 0, 0, false, false⟩), (4, .b ⟨81, .l [.p 35 0, .p 66 0, .p 99 0, .nilp, .nilp, .nilp, .nilp, .nilp], 0, 0, 0, false, false⟩), (100, .b ⟨86, .l [.nilp, .nils], 0, 0, 0, false, false⟩), (35, lnK 1 34 0 7 0 false), (66, lnK 2 65 0 7 0 false), (99, lnK 3 98 0 7 0 false), (34, .b ⟨40, .l [i6 1, i6 1, .s 8 65792, i6 0, i6 4, i6 1, .s 0 0, i6 0, i6 5, i6 1, .x 6, i6 0, i6 5, i6 1, .x 6, i6 0, i6 5, i6 1, .x 6, i6 0, i6 5, i6 1, .x 11, .x 15, i6 5, i6 1, .s 0 0, i6 0], 28, 4, 0, false, true⟩), (65, .b ⟨40, .l [i6 1, i6 2, .s 8 65792, i6 0, i6 4, i6 2, .s 0 0, i6 0, i6 5, i6 2, .x 6, i6 0, i6 5, i6 2, .x 6, i6 0, i6 5, i6 2, .x 6, i6 0, i6 5, i6 2, .x 11, .x 15, i6 5, i6 2, .s 0 0, i6 0], 28, 4, 0, false, true⟩), (98, .b ⟨40, .l [i6 1, i6 3, .s 8 65792, i6 0, i6 4, i6 3, .s 0 0, i6 0, i6 5, i6 3, .x 6, i6 0, i6 5, i6 3, .x 6, i6 0, i6 5, i6 3, .x 6, i6 0, i6 5, i6 3, .x 11, .x 15, i6 5, i6 3, .s 0 0, i6 0], 28, 4, 0, false, true⟩)], [(6, .b ⟨80, .l [.sl 4 0 8 8 false, .p 5 0, .x 17, i6 3, .nils, .b false], 0, 0, 0, false, false⟩), (4, .b ⟨81, .l [.p 302 0, .p 304 0, .p 306 0, .nilp, .nilp, .nilp, .nilp, .nilp], 0, 0, 0, false, false⟩), (302, lnK 1 303 28 0 7 true), (303, .b ⟨40, .l [i6 1, i6 1, .s 8 65792, i6 0, i6 4, i6 1, .s 0 0, i6 0, i6 5, i6 1, .x 6, i6 0, i6 5, i6 1, .x 6, i6 0, i6 5, i6 1, .x 6, i6 0, i6 5, i6 1, .x 11, .x 15, i6 5, i6 1, .s 0 0, i6 0], 28, 4, 0, false, true⟩), (304, lnK 2 305 28 0 7 true), (305, .b ⟨40, .l [i6 1, i6 2, .s 8 65792, i6 0, i6 4, i6 2, .s 0 0, i6 0, i6 5, i6 2, .x 6, i6 0, i6 5, i6 2, .x 6, i6 0, i6 5, i6 2, .x 6, i6 0, i6 5, i6 2, .x 11, .x 15, i6 5, i6 2, .s 0 0, i6 0], 28, 4, 0, false, true⟩), (306, lnK 3 307 28 0 7 true), (307, .b ⟨40, .l [i6 1, i6 3, .s 8 65792, i6 0, i6 4, i6 3, .s 0 0, i6 0, i6 5, i6 3, .x 6, i6 0, i6 5, i6 3, .x 6, i6 0, i6 5, i6 3, .x 6, i6 0, i6 5, i6 3, .x 11, .x 15, i6 5, i6 3, .s 0 0, i6 0], 28, 4, 0, false, true⟩), (300, .b ⟨86, .l [.p 300 0, .sy 301], 0, 0, 0, false, false⟩), (301, .t 16 5)]⟩
def lfd19 : LF := ⟨2, 47, [(0, .p 6 0), (1, i6 1000000), (5, .p 100 0)], [], .exit 0, [(5, .p 300 0)], some lhd19⟩
def lhw20 : LH := ⟨4, 520, 580, [(500, .b ⟨38, .l [i6 0, i6 0, i6 0, i6 0, i6 0, i6 0, i6 0, i6 0, i6 0], 0, 0, 0, false, false⟩)], []⟩
def lfw20 : LF := ⟨11, 91, [(5, i6 3), (6, .p 6 0), (8, .x 16), (9, .p 500 0)], [], .exit 2, [(6, .p 6 0)], some lhw20⟩
noncomputable def tab9 : Tab := addLps (addLps ({ tabk with hyp := hy9 }) 14 fi14 [lfd19]) 4 fi4 [lfw20]
theorem run9 (e : Nat) : Go.AX.okB (call tab9 9000 4 [.x 0, .x 1] ⟨H0 e , 4, 0, 0⟩) = true := by kernel_rfl
def nu9 (n : Int) (body : Int) : List Value := [.int .u8 (n),
  .int .u16 (body),
  .int .u16 (body % 2000),
  .int .i64 ((body % 2000)),
  St' (List.replicate (Int.toNat ((body % 2000))) 0),
  .int .i64 ((body % 2000)),
  St' (List.replicate (Int.toNat (512)) 0),
  St' (List.replicate (Int.toNat ((body % 2000) - 512)) 0),
  .int .i64 ((body % 2000) - 512),
  St' (List.replicate (Int.toNat ((body % 2000) - 1024)) 0),
  .int .i64 ((body % 2000) - 1024),
  St' (List.replicate (Int.toNat ((body % 2000) - 1536)) 0),
  .int .i64 ((body % 2000) - 1536),
  .int .i64 ((body % 2000) - 1536),
  .int .i64 (1536 - (body % 2000)),
  .int .i64 ((1536 - (body % 2000)) % 8),
  St' (seqS (rcJ (List.replicate (Int.toNat (512)) 0) (List.replicate (Int.toNat ((body % 2000) - 1536)) 0) ((1536 - (body % 2000)) % 8) 4 3) 0 21),
  St' ([] : LB),
  .int .u8 (bt (seqS (rcJ (List.replicate (Int.toNat (512)) 0) (List.replicate (Int.toNat ((body % 2000) - 1536)) 0) ((1536 - (body % 2000)) % 8) 4 3) 0 21) 0),
  .int .i64 (((seqS (rcJ (List.replicate (Int.toNat (512)) 0) (List.replicate (Int.toNat ((body % 2000) - 1536)) 0) ((1536 - (body % 2000)) % 8) 4 3) 0 21).length : Int))]
theorem one9 (n : Int) (body : Int) : ∀ j, j < 1000000 → (nuL (nu9 n body) j).oneCell' = true := fun j _ => nuL_one (l := nu9 n body) rfl j
theorem path9 (n : Int) (body : Int) (b0 : 0 ≤ n) (b1 : n ≤ 255) (b2 : 0 ≤ body) (b3 : body ≤ 65535) (h0 : (n) % 6 = 1) (h1 : 512 < (body % 2000)) (h2 : 512 < (body % 2000) - 512) (h3 : 512 < (body % 2000) - 1024) (w : World) (hl : laidE w) : CwR 4 #[.int .u8 n, .int .u16 body] w (.bool true) := by
  have hout := out_bd (List.replicate (Int.toNat (512)) 0) (List.replicate (Int.toNat ((body % 2000) - 1536)) 0) ((1536 - (body % 2000)) % 8) (by first | (simp; done) | (rw [List.length_replicate]; omega)) (by first | (simp; done) | (rw [List.length_replicate]; omega)) (by omega) (by omega) 4 3 21 (by decide) (by decide)
  have := bt_lo (seqS (rcJ (List.replicate (Int.toNat (512)) 0) (List.replicate (Int.toNat ((body % 2000) - 1536)) 0) ((1536 - (body % 2000)) % 8) 4 3) 0 21) 0; have := bt_hi (seqS (rcJ (List.replicate (Int.toNat (512)) 0) (List.replicate (Int.toNat ((body % 2000) - 1536)) 0) ((1536 - (body % 2000)) % 8) 4 3) 0 21) 0
  have ho : ∀ k r, (k, r) ∈ hy9 → HOk (cx (nuL (nu9 n body)) (one9 n body) 1 laidE laidE_stab) k r := by
    unfold hy9
    exact hc (kRem (isX rfl) (isZ (m := 6) rfl) (denZ (m := 1) rfl) (by omega) (by omega) (by omega)) <|
     hc (kRem (isX rfl) (isZ (m := 2000) rfl) (denX rfl) (by omega) (by omega) rfl) <|
     hc (kConvF (isX rfl) tu3 (denX rfl) (fI64 (by omega) (by omega))) <|
     hc (kZer (isX rfl) (by omega) (by omega) (denX rfl)) <|
     hc (lnV rfl rfl (by first | omega | (simp <;> omega))) <|
     hc (gtcT rfl (by omega)) <|
     hc (kMidR (E := (body % 2000)) (P := 0) (Q := 512) (isX rfl) (.inl ⟨rfl, rfl⟩) (.inr ⟨_, _, rfl, (isZ (m := 512) rfl)⟩) (by omega) (by omega) (by omega) (denX (congrArg (fun k : Int => St' (List.replicate k.toNat 0)) (show (512 : Int) = 512 - (0) by omega)))) <|
     hc (kLenE (isX rfl) (denZ (m := 512) rfl) (by first | omega | (simp <;> omega))) <|
     hc (kMidR (E := (body % 2000)) (P := 512) (Q := (body % 2000)) (isX rfl) (.inr ⟨_, _, rfl, (isZ (m := 512) rfl)⟩) (.inl ⟨rfl, by first | omega | (simp <;> omega)⟩) (by omega) (by omega) (by omega) (denX (congrArg (fun k : Int => St' (List.replicate k.toNat 0)) (show ((body % 2000) - 512 : Int) = (body % 2000) - (512) by omega)))) <|
     hc (lnV rfl rfl (by first | omega | (simp <;> omega))) <|
     hc (gtcT rfl (by omega)) <|
     hc (kMidR (E := (body % 2000) - 512) (P := 0) (Q := 512) (isX rfl) (.inl ⟨rfl, rfl⟩) (.inr ⟨_, _, rfl, (isZ (m := 512) rfl)⟩) (by omega) (by omega) (by omega) (denX (congrArg (fun k : Int => St' (List.replicate k.toNat 0)) (show (512 : Int) = 512 - (0) by omega)))) <|
     hc (kMidR (E := (body % 2000) - 512) (P := 512) (Q := (body % 2000) - 512) (isX rfl) (.inr ⟨_, _, rfl, (isZ (m := 512) rfl)⟩) (.inl ⟨rfl, by first | omega | (simp <;> omega)⟩) (by omega) (by omega) (by omega) (denX (congrArg (fun k : Int => St' (List.replicate k.toNat 0)) (show ((body % 2000) - 1024 : Int) = (body % 2000) - 512 - (512) by omega)))) <|
     hc (lnV rfl rfl (by first | omega | (simp <;> omega))) <|
     hc (gtcT rfl (by omega)) <|
     hc (kMidR (E := (body % 2000) - 1024) (P := 0) (Q := 512) (isX rfl) (.inl ⟨rfl, rfl⟩) (.inr ⟨_, _, rfl, (isZ (m := 512) rfl)⟩) (by omega) (by omega) (by omega) (denX (congrArg (fun k : Int => St' (List.replicate k.toNat 0)) (show (512 : Int) = 512 - (0) by omega)))) <|
     hc (kMidR (E := (body % 2000) - 1024) (P := 512) (Q := (body % 2000) - 1024) (isX rfl) (.inr ⟨_, _, rfl, (isZ (m := 512) rfl)⟩) (.inl ⟨rfl, by first | omega | (simp <;> omega)⟩) (by omega) (by omega) (by omega) (denX (congrArg (fun k : Int => St' (List.replicate k.toNat 0)) (show ((body % 2000) - 1536 : Int) = (body % 2000) - 1024 - (512) by omega)))) <|
     hc (lnV rfl rfl (by first | omega | (simp <;> omega))) <|
     hc (gtcF rfl (by omega)) <|
     hc (kNeS (isX rfl) (isSx (l := ([] : LB)) 0 0 rfl) (bnT (nilF (by rw [List.length_replicate]; omega)))) <|
     hc (kMax (isX rfl) (isZ (m := 0) rfl) (denX rfl) (by omega)) <|
     hc (kNeg (isX rfl) (denX rfl) (by omega) (fI64 (by omega) (by omega))) <|
     hc (kAndG 3 8 rfl (by decide) (isX rfl) (isZ (m := 7) rfl) (denX rfl) (fI64 (by omega) (by omega)) rfl rfl (fI64 (by omega) (by omega))) <|
     hc (kByt (i := 0) (isX rfl) (isZ (m := 0) rfl) (denX rfl) rfl (by first | omega | (simp <;> omega)) rfl) <|
     hc (lnV rfl rfl (by omega)) <|
     hc (kFit (isX rfl) (by first | omega | (simp <;> omega))) <|
     hc (kNeS (isX rfl) (isSx (l := ([] : LB)) 0 0 rfl) (bnF (decide_eq_true rfl))) <|
     hnil
  exact runP (tb := tab9) (AllOk.lp1 (AllOk.lp1 ((tabkOk (nuL (nu9 n body)) (one9 n body)).hyps ho) (by omega) fi14_at fi14_body (lfCons (lpKnown rfl ⟨0, keyD, lfOkD (l := lfd19) (h := lhd19) (List.replicate (Int.toNat (512)) 0) (List.replicate (Int.toNat ((body % 2000) - 1536)) 0) ((1536 - (body % 2000)) % 8) (by first | (simp; done) | (rw [List.length_replicate]; omega)) (by first | (simp; done) | (rw [List.length_replicate]; omega)) (by omega) (by omega) 3 4 21 (by decide) (by decide) (by decide) (by decide) hD3_4 dA3_4 (eA1 e3_4) rfl (by kernel_rfl) (th0 := [(1, .i .i64 (.ofNat 1000000)), (2, .s 0 0), (3, .x 6), (4, .x 11), (5, .x 15)]) (sg0 := [(300, 100), (302, 35), (304, 66), (306, 99), (303, 34), (305, 65), (307, 98)]) (fun X => thCons (show Is _ (.i .i64 (.ofNat 1000000)) (.int .i64 1000000) from isI _ _) (thCons (show Is _ (.s 0 0) (St' []) from isSx (l := []) 0 0 rfl) (thXv (v := St' (List.replicate (Int.toNat (512)) 0)) rfl rfl (thXv (v := St' (List.replicate (Int.toNat ((body % 2000) - 1536)) 0)) rfl rfl (thXv (v := .int .i64 ((1536 - (body % 2000)) % 8)) rfl rfl thNil))))) (by kernel_rfl) (thx := [(16, .x 0), (17, .x 2), (6, .x 3), (11, .x 4), (15, .x 5)]) (thXv (v := St' (seqS (rcJ (List.replicate (Int.toNat (512)) 0) (List.replicate (Int.toNat ((body % 2000) - 1536)) 0) ((1536 - (body % 2000)) % 8) 4 3) 0 21)) rfl rfl (thXv (v := St' []) rfl rfl (thXv (v := St' (List.replicate (Int.toNat (512)) 0)) rfl rfl (thXv (v := St' (List.replicate (Int.toNat ((body % 2000) - 1536)) 0)) rfl rfl (thXv (v := .int .i64 ((1536 - (body % 2000)) % 8)) rfl rfl (thNil)))))) (by kernel_rfl)⟩) lfNil)) (by omega) (get_lps2 (by omega) (by omega) fi4_at) fi4_body (lfCons (lpKnown rfl ⟨1, keyL, lfOkW (l := lfw20) (h := lhw20) (List.replicate (Int.toNat (512)) 0) (List.replicate (Int.toNat ((body % 2000) - 1536)) 0) ((1536 - (body % 2000)) % 8) (by first | (simp; done) | (rw [List.length_replicate]; omega)) (by first | (simp; done) | (rw [List.length_replicate]; omega)) (by omega) (by omega) 3 4 21 (by decide) (by decide) (by decide) hL3_4 lA3_4 (eA2 e3_4) rfl (by kernel_rfl) (th0 := [(0, .x 16)]) (sg0 := [(520, 500)]) (fun X => thXv (v := St' (seqS (rcJ (List.replicate (Int.toNat (512)) 0) (List.replicate (Int.toNat ((body % 2000) - 1536)) 0) ((1536 - (body % 2000)) % 8) 4 3) 0 21)) rfl rfl thNil) (by kernel_rfl) (by kernel_rfl)⟩) lfNil)) rfl (get_lps (by omega)) fiB4 (fun e => run9 e ) (args := [.int .u8 n, .int .u16 body]) (by simp only [RelL, Rel]; exact ⟨_, _, rfl, rfl, ⟨_, _, rfl, rfl, rfl⟩⟩) w hl
def hy10 : LK := [(.bin .rem (.x 0) (.i .u8 (.ofNat 6)), .i .u8 (.ofNat 2)),
  (.bin .rem (.x 1) (.i .u16 (.ofNat 2000)), .x 2),
  (.conv 3 (.x 2), .x 3),
  (.zer (.x 3), .x 4),
  (.len (.x 4), .x 5),
  (.bin .gtr (.x 5) (.i .i64 (.ofNat 512)), .b false),
  (.bin .neq (.x 4) (.s 0 0), .b false),
  (.byt (.x 6) (.i .i64 (.ofNat 0)), .x 8),
  (.len (.x 6), .x 9),
  (.fit (.x 6), .b true),
  (.bin .neq (.x 7) (.s 0 0), .b false)]
def lhd21 : LH := ⟨4, 300, 500, [(6, .b ⟨80, .l [.sl 4 0 8 8 false, .p 5 0, .s 0 0, i6 0, .nils, .b false], 0, 0, 0, false, false⟩), (4, .b ⟨81, .l [.p 23 0, .p 42 0, .p 63 0, .p 86 0, .nilp, .nilp, .nilp, .nilp], 0, 0, 0, false, false⟩), (87, .b ⟨86, .l [.nilp, .nils], 0, 0, 0, false, false⟩), (23, lnK 1 22 0 3 0 false), (42, lnK 2 41 0 3 0 false), (63, lnK 3 62 0 3 0 false), (86, lnK 4 85 0 3 0 false), (22, .b ⟨40, .l [i6 1, i6 1, .s 8 65792, i6 0, i6 4, i6 1, .s 0 0, i6 0, i6 5, i6 1, .s 0 0, i6 0], 12, 4, 0, false, true⟩), (41, .b ⟨40, .l [i6 1, i6 2, .s 8 65792, i6 0, i6 4, i6 2, .s 0 0, i6 0, i6 5, i6 2, .s 0 0, i6 0], 12, 4, 0, false, true⟩), (62, .b ⟨40, .l [i6 1, i6 3, .s 8 65792, i6 0, i6 4, i6 3, .s 0 0, i6 0, i6 5, i6 3, .s 0 0, i6 0], 12, 4, 0, false, true⟩), (85, .b ⟨40, .l [i6 1, i6 4, .s 8 65792, i6 0, i6 4, i6 4, .s 0 0, i6 0, i6 5, i6 4, .s 0 0, i6 0], 12, 4, 0, false, true⟩)], [(6, .b ⟨80, .l [.sl 4 0 8 8 false, .p 5 0, .x 7, i6 4, .nils, .b false], 0, 0, 0, false, false⟩), (4, .b ⟨81, .l [.p 302 0, .p 304 0, .p 306 0, .p 308 0, .nilp, .nilp, .nilp, .nilp], 0, 0, 0, false, false⟩), (302, lnK 1 303 12 0 3 true), (303, .b ⟨40, .l [i6 1, i6 1, .s 8 65792, i6 0, i6 4, i6 1, .s 0 0, i6 0, i6 5, i6 1, .s 0 0, i6 0], 12, 4, 0, false, true⟩), (304, lnK 2 305 12 0 3 true), (305, .b ⟨40, .l [i6 1, i6 2, .s 8 65792, i6 0, i6 4, i6 2, .s 0 0, i6 0, i6 5, i6 2, .s 0 0, i6 0], 12, 4, 0, false, true⟩), (306, lnK 3 307 12 0 3 true), (307, .b ⟨40, .l [i6 1, i6 3, .s 8 65792, i6 0, i6 4, i6 3, .s 0 0, i6 0, i6 5, i6 3, .s 0 0, i6 0], 12, 4, 0, false, true⟩), (308, lnK 4 309 12 0 3 true), (309, .b ⟨40, .l [i6 1, i6 4, .s 8 65792, i6 0, i6 4, i6 4, .s 0 0, i6 0, i6 5, i6 4, .s 0 0, i6 0], 12, 4, 0, false, true⟩), (300, .b ⟨86, .l [.p 300 0, .sy 301], 0, 0, 0, false, false⟩), (301, .t 6 5)]⟩
def lfd21 : LF := ⟨2, 47, [(0, .p 6 0), (1, i6 1000000), (5, .p 87 0)], [], .exit 0, [(5, .p 300 0)], some lhd21⟩
def lhw22 : LH := ⟨4, 520, 580, [(500, .b ⟨38, .l [i6 0, i6 0, i6 0, i6 0, i6 0, i6 0, i6 0, i6 0, i6 0], 0, 0, 0, false, false⟩)], []⟩
def lfw22 : LF := ⟨11, 91, [(5, i6 4), (6, .p 6 0), (8, .x 6), (9, .p 500 0)], [], .exit 2, [(6, .p 6 0)], some lhw22⟩
noncomputable def tab10 : Tab := addLps (addLps ({ tabk with hyp := hy10 }) 14 fi14 [lfd21]) 4 fi4 [lfw22]
theorem run10 (e : Nat) : Go.AX.okB (call tab10 9000 4 [.x 0, .x 1] ⟨H0 e , 4, 0, 0⟩) = true := by kernel_rfl
def nu10 (n : Int) (body : Int) : List Value := [.int .u8 (n),
  .int .u16 (body),
  .int .u16 (body % 2000),
  .int .i64 ((body % 2000)),
  St' (List.replicate (Int.toNat ((body % 2000))) 0),
  .int .i64 ((body % 2000)),
  St' (seqS (rcJ (List.replicate 512 0) ([] : LB) (0 : Int) 0 4) 0 12),
  St' ([] : LB),
  .int .u8 (bt (seqS (rcJ (List.replicate 512 0) ([] : LB) (0 : Int) 0 4) 0 12) 0),
  .int .i64 (((seqS (rcJ (List.replicate 512 0) ([] : LB) (0 : Int) 0 4) 0 12).length : Int))]
theorem one10 (n : Int) (body : Int) : ∀ j, j < 1000000 → (nuL (nu10 n body) j).oneCell' = true := fun j _ => nuL_one (l := nu10 n body) rfl j
theorem path10 (n : Int) (body : Int) (b0 : 0 ≤ n) (b1 : n ≤ 255) (b2 : 0 ≤ body) (b3 : body ≤ 65535) (h0 : (n) % 6 = 2) (h1 : ¬ (512 < (body % 2000))) (h2 : (body % 2000) = 0) (w : World) (hl : laidE w) : CwR 4 #[.int .u8 n, .int .u16 body] w (.bool true) := by
  have hout := out_bd (List.replicate 512 0) ([] : LB) (0 : Int) (by first | (simp; done) | (rw [List.length_replicate]; omega)) (by first | (simp; done) | (rw [List.length_replicate]; omega)) (by omega) (by omega) 0 4 12 (by decide) (by decide)
  have := bt_lo (seqS (rcJ (List.replicate 512 0) ([] : LB) (0 : Int) 0 4) 0 12) 0; have := bt_hi (seqS (rcJ (List.replicate 512 0) ([] : LB) (0 : Int) 0 4) 0 12) 0
  have ho : ∀ k r, (k, r) ∈ hy10 → HOk (cx (nuL (nu10 n body)) (one10 n body) 1 laidE laidE_stab) k r := by
    unfold hy10
    exact hc (kRem (isX rfl) (isZ (m := 6) rfl) (denZ (m := 2) rfl) (by omega) (by omega) (by omega)) <|
     hc (kRem (isX rfl) (isZ (m := 2000) rfl) (denX rfl) (by omega) (by omega) rfl) <|
     hc (kConvF (isX rfl) tu3 (denX rfl) (fI64 (by omega) (by omega))) <|
     hc (kZer (isX rfl) (by omega) (by omega) (denX rfl)) <|
     hc (lnV rfl rfl (by first | omega | (simp <;> omega))) <|
     hc (gtcF rfl (by omega)) <|
     hc (kNeS (isX rfl) (isSx (l := ([] : LB)) 0 0 rfl) (bnF (nilT (by rw [List.length_replicate]; omega)))) <|
     hc (kByt (i := 0) (isX rfl) (isZ (m := 0) rfl) (denX rfl) rfl (by first | omega | (simp <;> omega)) rfl) <|
     hc (lnV rfl rfl (by omega)) <|
     hc (kFit (isX rfl) (by first | omega | (simp <;> omega))) <|
     hc (kNeS (isX rfl) (isSx (l := ([] : LB)) 0 0 rfl) (bnF (decide_eq_true rfl))) <|
     hnil
  exact runP (tb := tab10) (AllOk.lp1 (AllOk.lp1 ((tabkOk (nuL (nu10 n body)) (one10 n body)).hyps ho) (by omega) fi14_at fi14_body (lfCons (lpKnown rfl ⟨0, keyD, lfOkD (l := lfd21) (h := lhd21) (List.replicate 512 0) ([] : LB) (0 : Int) (by first | (simp; done) | (rw [List.length_replicate]; omega)) (by first | (simp; done) | (rw [List.length_replicate]; omega)) (by omega) (by omega) 4 0 12 (by decide) (by decide) (by decide) (by decide) hD4_0 dA4_0 (eA1 e4_0) rfl (by kernel_rfl) (th0 := [(1, .i .i64 (.ofNat 1000000)), (2, .s 0 0)]) (sg0 := [(300, 87), (302, 23), (304, 42), (306, 63), (308, 86), (303, 22), (305, 41), (307, 62), (309, 85)]) (fun X => thCons (show Is _ (.i .i64 (.ofNat 1000000)) (.int .i64 1000000) from isI _ _) (thCons (show Is _ (.s 0 0) (St' []) from isSx (l := []) 0 0 rfl) thNil)) (by kernel_rfl) (thx := [(6, .x 0), (7, .x 2)]) (thXv (v := St' (seqS (rcJ (List.replicate 512 0) ([] : LB) (0 : Int) 0 4) 0 12)) rfl rfl (thXv (v := St' []) rfl rfl (thNil))) (by kernel_rfl)⟩) lfNil)) (by omega) (get_lps2 (by omega) (by omega) fi4_at) fi4_body (lfCons (lpKnown rfl ⟨1, keyL, lfOkW (l := lfw22) (h := lhw22) (List.replicate 512 0) ([] : LB) (0 : Int) (by first | (simp; done) | (rw [List.length_replicate]; omega)) (by first | (simp; done) | (rw [List.length_replicate]; omega)) (by omega) (by omega) 4 0 12 (by decide) (by decide) (by decide) hL4_0 lA4_0 (eA2 e4_0) rfl (by kernel_rfl) (th0 := [(0, .x 6)]) (sg0 := [(520, 500)]) (fun X => thXv (v := St' (seqS (rcJ (List.replicate 512 0) ([] : LB) (0 : Int) 0 4) 0 12)) rfl rfl thNil) (by kernel_rfl) (by kernel_rfl)⟩) lfNil)) rfl (get_lps (by omega)) fiB4 (fun e => run10 e ) (args := [.int .u8 n, .int .u16 body]) (by simp only [RelL, Rel]; exact ⟨_, _, rfl, rfl, ⟨_, _, rfl, rfl, rfl⟩⟩) w hl
def hy11 : LK := [(.bin .rem (.x 0) (.i .u8 (.ofNat 6)), .i .u8 (.ofNat 2)),
  (.bin .rem (.x 1) (.i .u16 (.ofNat 2000)), .x 2),
  (.conv 3 (.x 2), .x 3),
  (.zer (.x 3), .x 4),
  (.len (.x 4), .x 5),
  (.bin .gtr (.x 5) (.i .i64 (.ofNat 512)), .b false),
  (.bin .neq (.x 4) (.s 0 0), .b true),
  (.mm true (.x 5) (.i .i64 (.ofNat 0)), .x 6),
  (.un .neg (.x 6), .x 7),
  (.bin .and (.x 7) (.i .i64 (.ofNat 7)), .x 8),
  (.byt (.x 9) (.i .i64 (.ofNat 0)), .x 11),
  (.len (.x 9), .x 12),
  (.fit (.x 9), .b true),
  (.bin .neq (.x 10) (.s 0 0), .b false)]
def lhd23 : LH := ⟨4, 300, 500, [(6, .b ⟨80, .l [.sl 4 0 8 8 false, .p 5 0, .s 0 0, i6 0, .nils, .b false], 0, 0, 0, false, false⟩), (4, .b ⟨81, .l [.p 26 0, .p 48 0, .p 72 0, .p 98 0, .nilp, .nilp, .nilp, .nilp], 0, 0, 0, false, false⟩), (99, .b ⟨86, .l [.nilp, .nils], 0, 0, 0, false, false⟩), (26, lnK 1 25 0 4 0 false), (48, lnK 2 47 0 4 0 false), (72, lnK 3 71 0 4 0 false), (98, lnK 4 97 0 4 0 false), (25, .b ⟨40, .l [i6 1, i6 1, .s 8 65792, i6 0, i6 4, i6 1, .s 0 0, i6 0, i6 5, i6 1, .x 4, .x 8, i6 5, i6 1, .s 0 0, i6 0], 16, 4, 0, false, true⟩), (47, .b ⟨40, .l [i6 1, i6 2, .s 8 65792, i6 0, i6 4, i6 2, .s 0 0, i6 0, i6 5, i6 2, .x 4, .x 8, i6 5, i6 2, .s 0 0, i6 0], 16, 4, 0, false, true⟩), (71, .b ⟨40, .l [i6 1, i6 3, .s 8 65792, i6 0, i6 4, i6 3, .s 0 0, i6 0, i6 5, i6 3, .x 4, .x 8, i6 5, i6 3, .s 0 0, i6 0], 16, 4, 0, false, true⟩), (97, .b ⟨40, .l [i6 1, i6 4, .s 8 65792, i6 0, i6 4, i6 4, .s 0 0, i6 0, i6 5, i6 4, .x 4, .x 8, i6 5, i6 4, .s 0 0, i6 0], 16, 4, 0, false, true⟩)], [(6, .b ⟨80, .l [.sl 4 0 8 8 false, .p 5 0, .x 10, i6 4, .nils, .b false], 0, 0, 0, false, false⟩), (4, .b ⟨81, .l [.p 302 0, .p 304 0, .p 306 0, .p 308 0, .nilp, .nilp, .nilp, .nilp], 0, 0, 0, false, false⟩), (302, lnK 1 303 16 0 4 true), (303, .b ⟨40, .l [i6 1, i6 1, .s 8 65792, i6 0, i6 4, i6 1, .s 0 0, i6 0, i6 5, i6 1, .x 4, .x 8, i6 5, i6 1, .s 0 0, i6 0], 16, 4, 0, false, true⟩), (304, lnK 2 305 16 0 4 true), (305, .b ⟨40, .l [i6 1, i6 2, .s 8 65792, i6 0, i6 4, i6 2, .s 0 0, i6 0, i6 5, i6 2, .x 4, .x 8, i6 5, i6 2, .s 0 0, i6 0], 16, 4, 0, false, true⟩), (306, lnK 3 307 16 0 4 true), (307, .b ⟨40, .l [i6 1, i6 3, .s 8 65792, i6 0, i6 4, i6 3, .s 0 0, i6 0, i6 5, i6 3, .x 4, .x 8, i6 5, i6 3, .s 0 0, i6 0], 16, 4, 0, false, true⟩), (308, lnK 4 309 16 0 4 true), (309, .b ⟨40, .l [i6 1, i6 4, .s 8 65792, i6 0, i6 4, i6 4, .s 0 0, i6 0, i6 5, i6 4, .x 4, .x 8, i6 5, i6 4, .s 0 0, i6 0], 16, 4, 0, false, true⟩), (300, .b ⟨86, .l [.p 300 0, .sy 301], 0, 0, 0, false, false⟩), (301, .t 9 5)]⟩
def lfd23 : LF := ⟨2, 47, [(0, .p 6 0), (1, i6 1000000), (5, .p 99 0)], [], .exit 0, [(5, .p 300 0)], some lhd23⟩
def lhw24 : LH := ⟨4, 520, 580, [(500, .b ⟨38, .l [i6 0, i6 0, i6 0, i6 0, i6 0, i6 0, i6 0, i6 0, i6 0], 0, 0, 0, false, false⟩)], []⟩
def lfw24 : LF := ⟨11, 91, [(5, i6 4), (6, .p 6 0), (8, .x 9), (9, .p 500 0)], [], .exit 2, [(6, .p 6 0)], some lhw24⟩
noncomputable def tab11 : Tab := addLps (addLps ({ tabk with hyp := hy11 }) 14 fi14 [lfd23]) 4 fi4 [lfw24]
theorem run11 (e : Nat) : Go.AX.okB (call tab11 9000 4 [.x 0, .x 1] ⟨H0 e , 4, 0, 0⟩) = true := by kernel_rfl
def nu11 (n : Int) (body : Int) : List Value := [.int .u8 (n),
  .int .u16 (body),
  .int .u16 (body % 2000),
  .int .i64 ((body % 2000)),
  St' (List.replicate (Int.toNat ((body % 2000))) 0),
  .int .i64 ((body % 2000)),
  .int .i64 ((body % 2000)),
  .int .i64 (-((body % 2000))),
  .int .i64 ((-((body % 2000))) % 8),
  St' (seqS (rcJ (List.replicate 512 0) (List.replicate (Int.toNat ((body % 2000))) 0) ((-((body % 2000))) % 8) 1 4) 0 16),
  St' ([] : LB),
  .int .u8 (bt (seqS (rcJ (List.replicate 512 0) (List.replicate (Int.toNat ((body % 2000))) 0) ((-((body % 2000))) % 8) 1 4) 0 16) 0),
  .int .i64 (((seqS (rcJ (List.replicate 512 0) (List.replicate (Int.toNat ((body % 2000))) 0) ((-((body % 2000))) % 8) 1 4) 0 16).length : Int))]
theorem one11 (n : Int) (body : Int) : ∀ j, j < 1000000 → (nuL (nu11 n body) j).oneCell' = true := fun j _ => nuL_one (l := nu11 n body) rfl j
theorem path11 (n : Int) (body : Int) (b0 : 0 ≤ n) (b1 : n ≤ 255) (b2 : 0 ≤ body) (b3 : body ≤ 65535) (h0 : (n) % 6 = 2) (h1 : ¬ (512 < (body % 2000))) (h2 : ¬ ((body % 2000) = 0)) (w : World) (hl : laidE w) : CwR 4 #[.int .u8 n, .int .u16 body] w (.bool true) := by
  have hout := out_bd (List.replicate 512 0) (List.replicate (Int.toNat ((body % 2000))) 0) ((-((body % 2000))) % 8) (by first | (simp; done) | (rw [List.length_replicate]; omega)) (by first | (simp; done) | (rw [List.length_replicate]; omega)) (by omega) (by omega) 1 4 16 (by decide) (by decide)
  have := bt_lo (seqS (rcJ (List.replicate 512 0) (List.replicate (Int.toNat ((body % 2000))) 0) ((-((body % 2000))) % 8) 1 4) 0 16) 0; have := bt_hi (seqS (rcJ (List.replicate 512 0) (List.replicate (Int.toNat ((body % 2000))) 0) ((-((body % 2000))) % 8) 1 4) 0 16) 0
  have ho : ∀ k r, (k, r) ∈ hy11 → HOk (cx (nuL (nu11 n body)) (one11 n body) 1 laidE laidE_stab) k r := by
    unfold hy11
    exact hc (kRem (isX rfl) (isZ (m := 6) rfl) (denZ (m := 2) rfl) (by omega) (by omega) (by omega)) <|
     hc (kRem (isX rfl) (isZ (m := 2000) rfl) (denX rfl) (by omega) (by omega) rfl) <|
     hc (kConvF (isX rfl) tu3 (denX rfl) (fI64 (by omega) (by omega))) <|
     hc (kZer (isX rfl) (by omega) (by omega) (denX rfl)) <|
     hc (lnV rfl rfl (by first | omega | (simp <;> omega))) <|
     hc (gtcF rfl (by omega)) <|
     hc (kNeS (isX rfl) (isSx (l := ([] : LB)) 0 0 rfl) (bnT (nilF (by rw [List.length_replicate]; omega)))) <|
     hc (kMax (isX rfl) (isZ (m := 0) rfl) (denX rfl) (by omega)) <|
     hc (kNeg (isX rfl) (denX rfl) (by omega) (fI64 (by omega) (by omega))) <|
     hc (kAndG 3 8 rfl (by decide) (isX rfl) (isZ (m := 7) rfl) (denX rfl) (fI64 (by omega) (by omega)) rfl rfl (fI64 (by omega) (by omega))) <|
     hc (kByt (i := 0) (isX rfl) (isZ (m := 0) rfl) (denX rfl) rfl (by first | omega | (simp <;> omega)) rfl) <|
     hc (lnV rfl rfl (by omega)) <|
     hc (kFit (isX rfl) (by first | omega | (simp <;> omega))) <|
     hc (kNeS (isX rfl) (isSx (l := ([] : LB)) 0 0 rfl) (bnF (decide_eq_true rfl))) <|
     hnil
  exact runP (tb := tab11) (AllOk.lp1 (AllOk.lp1 ((tabkOk (nuL (nu11 n body)) (one11 n body)).hyps ho) (by omega) fi14_at fi14_body (lfCons (lpKnown rfl ⟨0, keyD, lfOkD (l := lfd23) (h := lhd23) (List.replicate 512 0) (List.replicate (Int.toNat ((body % 2000))) 0) ((-((body % 2000))) % 8) (by first | (simp; done) | (rw [List.length_replicate]; omega)) (by first | (simp; done) | (rw [List.length_replicate]; omega)) (by omega) (by omega) 4 1 16 (by decide) (by decide) (by decide) (by decide) hD4_1 dA4_1 (eA1 e4_1) rfl (by kernel_rfl) (th0 := [(1, .i .i64 (.ofNat 1000000)), (2, .s 0 0), (4, .x 4), (5, .x 8)]) (sg0 := [(300, 99), (302, 26), (304, 48), (306, 72), (308, 98), (303, 25), (305, 47), (307, 71), (309, 97)]) (fun X => thCons (show Is _ (.i .i64 (.ofNat 1000000)) (.int .i64 1000000) from isI _ _) (thCons (show Is _ (.s 0 0) (St' []) from isSx (l := []) 0 0 rfl) (thXv (v := St' (List.replicate (Int.toNat ((body % 2000))) 0)) rfl rfl (thXv (v := .int .i64 ((-((body % 2000))) % 8)) rfl rfl thNil)))) (by kernel_rfl) (thx := [(9, .x 0), (10, .x 2), (4, .x 4), (8, .x 5)]) (thXv (v := St' (seqS (rcJ (List.replicate 512 0) (List.replicate (Int.toNat ((body % 2000))) 0) ((-((body % 2000))) % 8) 1 4) 0 16)) rfl rfl (thXv (v := St' []) rfl rfl (thXv (v := St' (List.replicate (Int.toNat ((body % 2000))) 0)) rfl rfl (thXv (v := .int .i64 ((-((body % 2000))) % 8)) rfl rfl (thNil))))) (by kernel_rfl)⟩) lfNil)) (by omega) (get_lps2 (by omega) (by omega) fi4_at) fi4_body (lfCons (lpKnown rfl ⟨1, keyL, lfOkW (l := lfw24) (h := lhw24) (List.replicate 512 0) (List.replicate (Int.toNat ((body % 2000))) 0) ((-((body % 2000))) % 8) (by first | (simp; done) | (rw [List.length_replicate]; omega)) (by first | (simp; done) | (rw [List.length_replicate]; omega)) (by omega) (by omega) 4 1 16 (by decide) (by decide) (by decide) hL4_1 lA4_1 (eA2 e4_1) rfl (by kernel_rfl) (th0 := [(0, .x 9)]) (sg0 := [(520, 500)]) (fun X => thXv (v := St' (seqS (rcJ (List.replicate 512 0) (List.replicate (Int.toNat ((body % 2000))) 0) ((-((body % 2000))) % 8) 1 4) 0 16)) rfl rfl thNil) (by kernel_rfl) (by kernel_rfl)⟩) lfNil)) rfl (get_lps (by omega)) fiB4 (fun e => run11 e ) (args := [.int .u8 n, .int .u16 body]) (by simp only [RelL, Rel]; exact ⟨_, _, rfl, rfl, ⟨_, _, rfl, rfl, rfl⟩⟩) w hl
end Go.Proofs.YtkhcgoeccmkmdaaGreatDoor.muxFair
