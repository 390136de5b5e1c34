/- A part of the proof: an interpreter of the model's own code on partly known states, and that what it answers is what the program answers. No condition of its own. -/
import Derived.Test.YtkhcgoeccmkmdaaGreatDoorM1MuxFairQ
set_option maxRecDepth 100000
set_option linter.unusedVariables false
set_option linter.unusedSimpArgs false
set_option maxHeartbeats 4000000
namespace Go.Proofs.YtkhcgoeccmkmdaaGreatDoor.muxFair
open Go Go.AX Go.Proofs Go.Proofs.YtkhcgoeccmkmdaaGreatDoor
def hy15 : LK := [(.bin .rem (.x 0) (.i .u8 (.ofNat 6)), .i .u8 (.ofNat 3)),
  (.bin .rem (.x 1) (.i .u16 (.ofNat 2000)), .x 2),
  (.conv 3 (.x 2), .x 3),
  (.zer (.x 3), .x 4),
  (.len (.x 4), .x 5),
  (.bin .gtr (.x 5) (.i .i64 (.ofNat 512)), .b false),
  (.bin .neq (.x 4) (.s 0 0), .b false),
  (.byt (.x 6) (.i .i64 (.ofNat 0)), .x 8),
  (.len (.x 6), .x 9),
  (.fit (.x 6), .b true),
  (.bin .neq (.x 7) (.s 0 0), .b false)]
def lhd31 : LH := ⟨4, 300, 500, [(6, .b ⟨80, .l [.sl 4 0 8 8 false, .p 5 0, .s 0 0, i6 0, .nils, .b false], 0, 0, 0, false, false⟩), (4, .b ⟨81, .l [.p 23 0, .p 42 0, .p 63 0, .p 86 0, .p 111 0, .nilp, .nilp, .nilp], 0, 0, 0, false, false⟩), (112, .b ⟨86, .l [.nilp, .nils], 0, 0, 0, false, false⟩), (23, lnK 1 22 0 3 0 false), (42, lnK 2 41 0 3 0 false), (63, lnK 3 62 0 3 0 false), (86, lnK 4 85 0 3 0 false), (111, lnK 5 110 0 3 0 false), (22, .b ⟨40, .l [i6 1, i6 1, .s 8 65792, i6 0, i6 4, i6 1, .s 0 0, i6 0, i6 5, i6 1, .s 0 0, i6 0], 12, 4, 0, false, true⟩), (41, .b ⟨40, .l [i6 1, i6 2, .s 8 65792, i6 0, i6 4, i6 2, .s 0 0, i6 0, i6 5, i6 2, .s 0 0, i6 0], 12, 4, 0, false, true⟩), (62, .b ⟨40, .l [i6 1, i6 3, .s 8 65792, i6 0, i6 4, i6 3, .s 0 0, i6 0, i6 5, i6 3, .s 0 0, i6 0], 12, 4, 0, false, true⟩), (85, .b ⟨40, .l [i6 1, i6 4, .s 8 65792, i6 0, i6 4, i6 4, .s 0 0, i6 0, i6 5, i6 4, .s 0 0, i6 0], 12, 4, 0, false, true⟩), (110, .b ⟨40, .l [i6 1, i6 5, .s 8 65792, i6 0, i6 4, i6 5, .s 0 0, i6 0, i6 5, i6 5, .s 0 0, i6 0], 12, 4, 0, false, true⟩)], [(6, .b ⟨80, .l [.sl 4 0 8 8 false, .p 5 0, .x 7, i6 5, .nils, .b false], 0, 0, 0, false, false⟩), (4, .b ⟨81, .l [.p 302 0, .p 304 0, .p 306 0, .p 308 0, .p 310 0, .nilp, .nilp, .nilp], 0, 0, 0, false, false⟩), (302, lnK 1 303 12 0 3 true), (303, .b ⟨40, .l [i6 1, i6 1, .s 8 65792, i6 0, i6 4, i6 1, .s 0 0, i6 0, i6 5, i6 1, .s 0 0, i6 0], 12, 4, 0, false, true⟩), (304, lnK 2 305 12 0 3 true), (305, .b ⟨40, .l [i6 1, i6 2, .s 8 65792, i6 0, i6 4, i6 2, .s 0 0, i6 0, i6 5, i6 2, .s 0 0, i6 0], 12, 4, 0, false, true⟩), (306, lnK 3 307 12 0 3 true), (307, .b ⟨40, .l [i6 1, i6 3, .s 8 65792, i6 0, i6 4, i6 3, .s 0 0, i6 0, i6 5, i6 3, .s 0 0, i6 0], 12, 4, 0, false, true⟩), (308, lnK 4 309 12 0 3 true), (309, .b ⟨40, .l [i6 1, i6 4, .s 8 65792, i6 0, i6 4, i6 4, .s 0 0, i6 0, i6 5, i6 4, .s 0 0, i6 0], 12, 4, 0, false, true⟩), (310, lnK 5 311 12 0 3 true), (311, .b ⟨40, .l [i6 1, i6 5, .s 8 65792, i6 0, i6 4, i6 5, .s 0 0, i6 0, i6 5, i6 5, .s 0 0, i6 0], 12, 4, 0, false, true⟩), (300, .b ⟨86, .l [.p 300 0, .sy 301], 0, 0, 0, false, false⟩), (301, .t 6 5)]⟩
def lfd31 : LF := ⟨2, 47, [(0, .p 6 0), (1, i6 1000000), (5, .p 112 0)], [], .exit 0, [(5, .p 300 0)], some lhd31⟩
def lhw32 : LH := ⟨4, 520, 580, [(500, .b ⟨38, .l [i6 0, i6 0, i6 0, i6 0, i6 0, i6 0, i6 0, i6 0, i6 0], 0, 0, 0, false, false⟩)], []⟩
def lfw32 : LF := ⟨11, 91, [(5, i6 5), (6, .p 6 0), (8, .x 6), (9, .p 500 0)], [], .exit 2, [(6, .p 6 0)], some lhw32⟩
noncomputable def tab15 : Tab := addLps (addLps ({ tabk with hyp := hy15 }) 14 fi14 [lfd31]) 4 fi4 [lfw32]
theorem run15 (e : Nat) : Go.AX.okB (call tab15 9000 4 [.x 0, .x 1] ⟨H0 e , 4, 0, 0⟩) = true := by kernel_rfl
def nu15 (n : Int) (body : Int) : List Value := [.int .u8 (n),
  .int .u16 (body),
  .int .u16 (body % 2000),
  .int .i64 ((body % 2000)),
  St' (List.replicate (Int.toNat ((body % 2000))) 0),
  .int .i64 ((body % 2000)),
  St' (seqS (rcJ (List.replicate 512 0) ([] : LB) (0 : Int) 0 5) 0 15),
  St' ([] : LB),
  .int .u8 (bt (seqS (rcJ (List.replicate 512 0) ([] : LB) (0 : Int) 0 5) 0 15) 0),
  .int .i64 (((seqS (rcJ (List.replicate 512 0) ([] : LB) (0 : Int) 0 5) 0 15).length : Int))]
theorem one15 (n : Int) (body : Int) : ∀ j, j < 1000000 → (nuL (nu15 n body) j).oneCell' = true := fun j _ => nuL_one (l := nu15 n body) rfl j
theorem path15 (n : Int) (body : Int) (b0 : 0 ≤ n) (b1 : n ≤ 255) (b2 : 0 ≤ body) (b3 : body ≤ 65535) (h0 : (n) % 6 = 3) (h1 : ¬ (512 < (body % 2000))) (h2 : (body % 2000) = 0) (w : World) (hl : laidE w) : CwR 4 #[.int .u8 n, .int .u16 body] w (.bool true) := by
  have hout := out_bd (List.replicate 512 0) ([] : LB) (0 : Int) (by first | (simp; done) | (rw [List.length_replicate]; omega)) (by first | (simp; done) | (rw [List.length_replicate]; omega)) (by omega) (by omega) 0 5 15 (by decide) (by decide)
  have := bt_lo (seqS (rcJ (List.replicate 512 0) ([] : LB) (0 : Int) 0 5) 0 15) 0; have := bt_hi (seqS (rcJ (List.replicate 512 0) ([] : LB) (0 : Int) 0 5) 0 15) 0
  have ho : ∀ k r, (k, r) ∈ hy15 → HOk (cx (nuL (nu15 n body)) (one15 n body) 1 laidE laidE_stab) k r := by
    unfold hy15
    exact hc (kRem (isX rfl) (isZ (m := 6) rfl) (denZ (m := 3) rfl) (by omega) (by omega) (by omega)) <|
     hc (kRem (isX rfl) (isZ (m := 2000) rfl) (denX rfl) (by omega) (by omega) rfl) <|
     hc (kConvF (isX rfl) tu3 (denX rfl) (fI64 (by omega) (by omega))) <|
     hc (kZer (isX rfl) (by omega) (by omega) (denX rfl)) <|
     hc (lnV rfl rfl (by first | omega | (simp <;> omega))) <|
     hc (gtcF rfl (by omega)) <|
     hc (kNeS (isX rfl) (isSx (l := ([] : LB)) 0 0 rfl) (bnF (nilT (by rw [List.length_replicate]; omega)))) <|
     hc (kByt (i := 0) (isX rfl) (isZ (m := 0) rfl) (denX rfl) rfl (by first | omega | (simp <;> omega)) rfl) <|
     hc (lnV rfl rfl (by omega)) <|
     hc (kFit (isX rfl) (by first | omega | (simp <;> omega))) <|
     hc (kNeS (isX rfl) (isSx (l := ([] : LB)) 0 0 rfl) (bnF (decide_eq_true rfl))) <|
     hnil
  exact runP (tb := tab15) (AllOk.lp1 (AllOk.lp1 ((tabkOk (nuL (nu15 n body)) (one15 n body)).hyps ho) (by omega) fi14_at fi14_body (lfCons (lpKnown rfl ⟨0, keyD, lfOkD (l := lfd31) (h := lhd31) (List.replicate 512 0) ([] : LB) (0 : Int) (by first | (simp; done) | (rw [List.length_replicate]; omega)) (by first | (simp; done) | (rw [List.length_replicate]; omega)) (by omega) (by omega) 5 0 15 (by decide) (by decide) (by decide) (by decide) hD5_0 dA5_0 (eA1 e5_0) rfl (by kernel_rfl) (th0 := [(1, .i .i64 (.ofNat 1000000)), (2, .s 0 0)]) (sg0 := [(300, 112), (302, 23), (304, 42), (306, 63), (308, 86), (310, 111), (303, 22), (305, 41), (307, 62), (309, 85), (311, 110)]) (fun X => thCons (show Is _ (.i .i64 (.ofNat 1000000)) (.int .i64 1000000) from isI _ _) (thCons (show Is _ (.s 0 0) (St' []) from isSx (l := []) 0 0 rfl) thNil)) (by kernel_rfl) (thx := [(6, .x 0), (7, .x 2)]) (thXv (v := St' (seqS (rcJ (List.replicate 512 0) ([] : LB) (0 : Int) 0 5) 0 15)) rfl rfl (thXv (v := St' []) rfl rfl (thNil))) (by kernel_rfl)⟩) lfNil)) (by omega) (get_lps2 (by omega) (by omega) fi4_at) fi4_body (lfCons (lpKnown rfl ⟨1, keyL, lfOkW (l := lfw32) (h := lhw32) (List.replicate 512 0) ([] : LB) (0 : Int) (by first | (simp; done) | (rw [List.length_replicate]; omega)) (by first | (simp; done) | (rw [List.length_replicate]; omega)) (by omega) (by omega) 5 0 15 (by decide) (by decide) (by decide) hL5_0 lA5_0 (eA2 e5_0) rfl (by kernel_rfl) (th0 := [(0, .x 6)]) (sg0 := [(520, 500)]) (fun X => thXv (v := St' (seqS (rcJ (List.replicate 512 0) ([] : LB) (0 : Int) 0 5) 0 15)) rfl rfl thNil) (by kernel_rfl) (by kernel_rfl)⟩) lfNil)) rfl (get_lps (by omega)) fiB4 (fun e => run15 e ) (args := [.int .u8 n, .int .u16 body]) (by simp only [RelL, Rel]; exact ⟨_, _, rfl, rfl, ⟨_, _, rfl, rfl, rfl⟩⟩) w hl
def hy16 : LK := [(.bin .rem (.x 0) (.i .u8 (.ofNat 6)), .i .u8 (.ofNat 3)),
  (.bin .rem (.x 1) (.i .u16 (.ofNat 2000)), .x 2),
  (.conv 3 (.x 2), .x 3),
  (.zer (.x 3), .x 4),
  (.len (.x 4), .x 5),
  (.bin .gtr (.x 5) (.i .i64 (.ofNat 512)), .b false),
  (.bin .neq (.x 4) (.s 0 0), .b true),
  (.mm true (.x 5) (.i .i64 (.ofNat 0)), .x 6),
  (.un .neg (.x 6), .x 7),
  (.bin .and (.x 7) (.i .i64 (.ofNat 7)), .x 8),
  (.byt (.x 9) (.i .i64 (.ofNat 0)), .x 11),
  (.len (.x 9), .x 12),
  (.fit (.x 9), .b true),
  (.bin .neq (.x 10) (.s 0 0), .b false)]
def lhd33 : LH := ⟨4, 300, 500, [(6, .b ⟨80, .l [.sl 4 0 8 8 false, .p 5 0, .s 0 0, i6 0, .nils, .b false], 0, 0, 0, false, false⟩), (4, .b ⟨81, .l [.p 26 0, .p 48 0, .p 72 0, .p 98 0, .p 126 0, .nilp, .nilp, .nilp], 0, 0, 0, false, false⟩), (127, .b ⟨86, .l [.nilp, .nils], 0, 0, 0, false, false⟩), (26, lnK 1 25 0 4 0 false), (48, lnK 2 47 0 4 0 false), (72, lnK 3 71 0 4 0 false), (98, lnK 4 97 0 4 0 false), (126, lnK 5 125 0 4 0 false), (25, .b ⟨40, .l [i6 1, i6 1, .s 8 65792, i6 0, i6 4, i6 1, .s 0 0, i6 0, i6 5, i6 1, .x 4, .x 8, i6 5, i6 1, .s 0 0, i6 0], 16, 4, 0, false, true⟩), (47, .b ⟨40, .l [i6 1, i6 2, .s 8 65792, i6 0, i6 4, i6 2, .s 0 0, i6 0, i6 5, i6 2, .x 4, .x 8, i6 5, i6 2, .s 0 0, i6 0], 16, 4, 0, false, true⟩), (71, .b ⟨40, .l [i6 1, i6 3, .s 8 65792, i6 0, i6 4, i6 3, .s 0 0, i6 0, i6 5, i6 3, .x 4, .x 8, i6 5, i6 3, .s 0 0, i6 0], 16, 4, 0, false, true⟩), (97, .b ⟨40, .l [i6 1, i6 4, .s 8 65792, i6 0, i6 4, i6 4, .s 0 0, i6 0, i6 5, i6 4, .x 4, .x 8, i6 5, i6 4, .s 0 0, i6 0], 16, 4, 0, false, true⟩), (125, .b ⟨40, .l [i6 1, i6 5, .s 8 65792, i6 0, i6 4, i6 5, .s 0 0, i6 0, i6 5, i6 5, .x 4, .x 8, i6 5, i6 5, .s 0 0, i6 0], 16, 4, 0, false, true⟩)], [(6, .b ⟨80, .l [.sl 4 0 8 8 false, .p 5 0, .x 10, i6 5, .nils, .b false], 0, 0, 0, false, false⟩), (4, .b ⟨81, .l [.p 302 0, .p 304 0, .p 306 0, .p 308 0, .p 310 0, .nilp, .nilp, .nilp], 0, 0, 0, false, false⟩), (302, lnK 1 303 16 0 4 true), (303, .b ⟨40, .l [i6 1, i6 1, .s 8 65792, i6 0, i6 4, i6 1, .s 0 0, i6 0, i6 5, i6 1, .x 4, .x 8, i6 5, i6 1, .s 0 0, i6 0], 16, 4, 0, false, true⟩), (304, lnK 2 305 16 0 4 true), (305, .b ⟨40, .l [i6 1, i6 2, .s 8 65792, i6 0, i6 4, i6 2, .s 0 0, i6 0, i6 5, i6 2, .x 4, .x 8, i6 5, i6 2, .s 0 0, i6 0], 16, 4, 0, false, true⟩), (306, lnK 3 307 16 0 4 true), (307, .b ⟨40, .l [i6 1, i6 3, .s 8 65792, i6 0, i6 4, i6 3, .s 0 0, i6 0, i6 5, i6 3, .x 4, .x 8, i6 5, i6 3, .s 0 0, i6 0], 16, 4, 0, false, true⟩), (308, lnK 4 309 16 0 4 true), (309, .b ⟨40, .l [i6 1, i6 4, .s 8 65792, i6 0, i6 4, i6 4, .s 0 0, i6 0, i6 5, i6 4, .x 4, .x 8, i6 5, i6 4, .s 0 0, i6 0], 16, 4, 0, false, true⟩), (310, lnK 5 311 16 0 4 true), (311, .b ⟨40, .l [i6 1, i6 5, .s 8 65792, i6 0, i6 4, i6 5, .s 0 0, i6 0, i6 5, i6 5, .x 4, .x 8, i6 5, i6 5, .s 0 0, i6 0], 16, 4, 0, false, true⟩), (300, .b ⟨86, .l [.p 300 0, .sy 301], 0, 0, 0, false, false⟩), (301, .t 9 5)]⟩
def lfd33 : LF := ⟨2, 47, [(0, .p 6 0), (1, i6 1000000), (5, .p 127 0)], [], .exit 0, [(5, .p 300 0)], some lhd33⟩
def lhw34 : LH := ⟨4, 520, 580, [(500, .b ⟨38, .l [i6 0, i6 0, i6 0, i6 0, i6 0, i6 0, i6 0, i6 0, i6 0], 0, 0, 0, false, false⟩)], []⟩
def lfw34 : LF := ⟨11, 91, [(5, i6 5), (6, .p 6 0), (8, .x 9), (9, .p 500 0)], [], .exit 2, [(6, .p 6 0)], some lhw34⟩
noncomputable def tab16 : Tab := addLps (addLps ({ tabk with hyp := hy16 }) 14 fi14 [lfd33]) 4 fi4 [lfw34]
theorem run16 (e : Nat) : Go.AX.okB (call tab16 9000 4 [.x 0, .x 1] ⟨H0 e , 4, 0, 0⟩) = true := by kernel_rfl
def nu16 (n : Int) (body : Int) : List Value := [.int .u8 (n),
  .int .u16 (body),
  .int .u16 (body % 2000),
  .int .i64 ((body % 2000)),
  St' (List.replicate (Int.toNat ((body % 2000))) 0),
  .int .i64 ((body % 2000)),
  .int .i64 ((body % 2000)),
  .int .i64 (-((body % 2000))),
  .int .i64 ((-((body % 2000))) % 8),
  St' (seqS (rcJ (List.replicate 512 0) (List.replicate (Int.toNat ((body % 2000))) 0) ((-((body % 2000))) % 8) 1 5) 0 20),
  St' ([] : LB),
  .int .u8 (bt (seqS (rcJ (List.replicate 512 0) (List.replicate (Int.toNat ((body % 2000))) 0) ((-((body % 2000))) % 8) 1 5) 0 20) 0),
  .int .i64 (((seqS (rcJ (List.replicate 512 0) (List.replicate (Int.toNat ((body % 2000))) 0) ((-((body % 2000))) % 8) 1 5) 0 20).length : Int))]
theorem one16 (n : Int) (body : Int) : ∀ j, j < 1000000 → (nuL (nu16 n body) j).oneCell' = true := fun j _ => nuL_one (l := nu16 n body) rfl j
theorem path16 (n : Int) (body : Int) (b0 : 0 ≤ n) (b1 : n ≤ 255) (b2 : 0 ≤ body) (b3 : body ≤ 65535) (h0 : (n) % 6 = 3) (h1 : ¬ (512 < (body % 2000))) (h2 : ¬ ((body % 2000) = 0)) (w : World) (hl : laidE w) : CwR 4 #[.int .u8 n, .int .u16 body] w (.bool true) := by
  have hout := out_bd (List.replicate 512 0) (List.replicate (Int.toNat ((body % 2000))) 0) ((-((body % 2000))) % 8) (by first | (simp; done) | (rw [List.length_replicate]; omega)) (by first | (simp; done) | (rw [List.length_replicate]; omega)) (by omega) (by omega) 1 5 20 (by decide) (by decide)
  have := bt_lo (seqS (rcJ (List.replicate 512 0) (List.replicate (Int.toNat ((body % 2000))) 0) ((-((body % 2000))) % 8) 1 5) 0 20) 0; have := bt_hi (seqS (rcJ (List.replicate 512 0) (List.replicate (Int.toNat ((body % 2000))) 0) ((-((body % 2000))) % 8) 1 5) 0 20) 0
  have ho : ∀ k r, (k, r) ∈ hy16 → HOk (cx (nuL (nu16 n body)) (one16 n body) 1 laidE laidE_stab) k r := by
    unfold hy16
    exact hc (kRem (isX rfl) (isZ (m := 6) rfl) (denZ (m := 3) rfl) (by omega) (by omega) (by omega)) <|
     hc (kRem (isX rfl) (isZ (m := 2000) rfl) (denX rfl) (by omega) (by omega) rfl) <|
     hc (kConvF (isX rfl) tu3 (denX rfl) (fI64 (by omega) (by omega))) <|
     hc (kZer (isX rfl) (by omega) (by omega) (denX rfl)) <|
     hc (lnV rfl rfl (by first | omega | (simp <;> omega))) <|
     hc (gtcF rfl (by omega)) <|
     hc (kNeS (isX rfl) (isSx (l := ([] : LB)) 0 0 rfl) (bnT (nilF (by rw [List.length_replicate]; omega)))) <|
     hc (kMax (isX rfl) (isZ (m := 0) rfl) (denX rfl) (by omega)) <|
     hc (kNeg (isX rfl) (denX rfl) (by omega) (fI64 (by omega) (by omega))) <|
     hc (kAndG 3 8 rfl (by decide) (isX rfl) (isZ (m := 7) rfl) (denX rfl) (fI64 (by omega) (by omega)) rfl rfl (fI64 (by omega) (by omega))) <|
     hc (kByt (i := 0) (isX rfl) (isZ (m := 0) rfl) (denX rfl) rfl (by first | omega | (simp <;> omega)) rfl) <|
     hc (lnV rfl rfl (by omega)) <|
     hc (kFit (isX rfl) (by first | omega | (simp <;> omega))) <|
     hc (kNeS (isX rfl) (isSx (l := ([] : LB)) 0 0 rfl) (bnF (decide_eq_true rfl))) <|
     hnil
  exact runP (tb := tab16) (AllOk.lp1 (AllOk.lp1 ((tabkOk (nuL (nu16 n body)) (one16 n body)).hyps ho) (by omega) fi14_at fi14_body (lfCons (lpKnown rfl ⟨0, keyD, lfOkD (l := lfd33) (h := lhd33) (List.replicate 512 0) (List.replicate (Int.toNat ((body % 2000))) 0) ((-((body % 2000))) % 8) (by first | (simp; done) | (rw [List.length_replicate]; omega)) (by first | (simp; done) | (rw [List.length_replicate]; omega)) (by omega) (by omega) 5 1 20 (by decide) (by decide) (by decide) (by decide) hD5_1 dA5_1 (eA1 e5_1) rfl (by kernel_rfl) (th0 := [(1, .i .i64 (.ofNat 1000000)), (2, .s 0 0), (4, .x 4), (5, .x 8)]) (sg0 := [(300, 127), (302, 26), (304, 48), (306, 72), (308, 98), (310, 126), (303, 25), (305, 47), (307, 71), (309, 97), (311, 125)]) (fun X => thCons (show Is _ (.i .i64 (.ofNat 1000000)) (.int .i64 1000000) from isI _ _) (thCons (show Is _ (.s 0 0) (St' []) from isSx (l := []) 0 0 rfl) (thXv (v := St' (List.replicate (Int.toNat ((body % 2000))) 0)) rfl rfl (thXv (v := .int .i64 ((-((body % 2000))) % 8)) rfl rfl thNil)))) (by kernel_rfl) (thx := [(9, .x 0), (10, .x 2), (4, .x 4), (8, .x 5)]) (thXv (v := St' (seqS (rcJ (List.replicate 512 0) (List.replicate (Int.toNat ((body % 2000))) 0) ((-((body % 2000))) % 8) 1 5) 0 20)) rfl rfl (thXv (v := St' []) rfl rfl (thXv (v := St' (List.replicate (Int.toNat ((body % 2000))) 0)) rfl rfl (thXv (v := .int .i64 ((-((body % 2000))) % 8)) rfl rfl (thNil))))) (by kernel_rfl)⟩) lfNil)) (by omega) (get_lps2 (by omega) (by omega) fi4_at) fi4_body (lfCons (lpKnown rfl ⟨1, keyL, lfOkW (l := lfw34) (h := lhw34) (List.replicate 512 0) (List.replicate (Int.toNat ((body % 2000))) 0) ((-((body % 2000))) % 8) (by first | (simp; done) | (rw [List.length_replicate]; omega)) (by first | (simp; done) | (rw [List.length_replicate]; omega)) (by omega) (by omega) 5 1 20 (by decide) (by decide) (by decide) hL5_1 lA5_1 (eA2 e5_1) rfl (by kernel_rfl) (th0 := [(0, .x 9)]) (sg0 := [(520, 500)]) (fun X => thXv (v := St' (seqS (rcJ (List.replicate 512 0) (List.replicate (Int.toNat ((body % 2000))) 0) ((-((body % 2000))) % 8) 1 5) 0 20)) rfl rfl thNil) (by kernel_rfl) (by kernel_rfl)⟩) lfNil)) rfl (get_lps (by omega)) fiB4 (fun e => run16 e ) (args := [.int .u8 n, .int .u16 body]) (by simp only [RelL, Rel]; exact ⟨_, _, rfl, rfl, ⟨_, _, rfl, rfl, rfl⟩⟩) w hl
def hy17 : LK := [(.bin .rem (.x 0) (.i .u8 (.ofNat 6)), .i .u8 (.ofNat 3)),
  (.bin .rem (.x 1) (.i .u16 (.ofNat 2000)), .x 2),
  (.conv 3 (.x 2), .x 3),
  (.zer (.x 3), .x 4),
  (.len (.x 4), .x 5),
  (.bin .gtr (.x 5) (.i .i64 (.ofNat 512)), .b true),
  (.sub (.x 4) none (some (.i .i64 (.ofNat 512))), .x 6),
  (.len (.x 6), .i .i64 (.ofNat 512)),
  (.sub (.x 4) (some (.i .i64 (.ofNat 512))) none, .x 7),
  (.len (.x 7), .x 8),
  (.bin .gtr (.x 8) (.i .i64 (.ofNat 512)), .b false),
  (.bin .neq (.x 7) (.s 0 0), .b true),
  (.mm true (.x 8) (.i .i64 (.ofNat 0)), .x 9),
  (.un .neg (.x 9), .x 10),
  (.bin .and (.x 10) (.i .i64 (.ofNat 7)), .x 11),
  (.byt (.x 12) (.i .i64 (.ofNat 0)), .x 14),
  (.len (.x 12), .x 15),
  (.fit (.x 12), .b true),
  (.bin .neq (.x 13) (.s 0 0), .b false)]
def lhd35 : LH := ⟨4, 300, 500, [(6, .b ⟨80, .l [.sl 4 0 8 8 false, .p 5 0, .s 0 0, i6 0, .nils, .b false], 0, 0, 0, false, false⟩), (4, .b ⟨81, .l [.p 29 0, .p 54 0, .p 81 0, .p 110 0, .p 141 0, .nilp, .nilp, .nilp], 0, 0, 0, false, false⟩), (142, .b ⟨86, .l [.nilp, .nils], 0, 0, 0, false, false⟩), (29, lnK 1 28 0 5 0 false), (54, lnK 2 53 0 5 0 false), (81, lnK 3 80 0 5 0 false), (110, lnK 4 109 0 5 0 false), (141, lnK 5 140 0 5 0 false), (28, .b ⟨40, .l [i6 1, i6 1, .s 8 65792, i6 0, i6 4, i6 1, .s 0 0, i6 0, i6 5, i6 1, .x 6, i6 0, i6 5, i6 1, .x 7, .x 11, i6 5, i6 1, .s 0 0, i6 0], 20, 4, 0, false, true⟩), (53, .b ⟨40, .l [i6 1, i6 2, .s 8 65792, i6 0, i6 4, i6 2, .s 0 0, i6 0, i6 5, i6 2, .x 6, i6 0, i6 5, i6 2, .x 7, .x 11, i6 5, i6 2, .s 0 0, i6 0], 20, 4, 0, false, true⟩), (80, .b ⟨40, .l [i6 1, i6 3, .s 8 65792, i6 0, i6 4, i6 3, .s 0 0, i6 0, i6 5, i6 3, .x 6, i6 0, i6 5, i6 3, .x 7, .x 11, i6 5, i6 3, .s 0 0, i6 0], 20, 4, 0, false, true⟩), (109, .b ⟨40, .l [i6 1, i6 4, .s 8 65792, i6 0, i6 4, i6 4, .s 0 0, i6 0, i6 5, i6 4, .x 6, i6 0, i6 5, i6 4, .x 7, .x 11, i6 5, i6 4, .s 0 0, i6 0], 20, 4, 0, false, true⟩), (140, .b ⟨40, .l [i6 1, i6 5, .s 8 65792, i6 0, i6 4, i6 5, .s 0 0, i6 0, i6 5, i6 5, .x 6, i6 0, i6 5, i6 5, .x 7, .x 11, i6 5, i6 5, .s 0 0, i6 0], 20, 4, 0, false, true⟩)], [(6, .b ⟨80, .l [.sl 4 0 8 8 false, .p 5 0, .x 13, i6 5, .nils, .b false], 0, 0, 0, false, false⟩), (4, .b ⟨81, .l [.p 302 0, .p 304 0, .p 306 0, .p 308 0, .p 310 0, .nilp, .nilp, .nilp], 0, 0, 0, false, false⟩), (302, lnK 1 303 20 0 5 true), (303, .b ⟨40, .l [i6 1, i6 1, .s 8 65792, i6 0, i6 4, i6 1, .s 0 0, i6 0, i6 5, i6 1, .x 6, i6 0, i6 5, i6 1, .x 7, .x 11, i6 5, i6 1, .s 0 0, i6 0], 20, 4, 0, false, true⟩), (304, lnK 2 305 20 0 5 true), (305, .b ⟨40, .l [i6 1, i6 2, .s 8 65792, i6 0, i6 4, i6 2, .s 0 0, i6 0, i6 5, i6 2, .x 6, i6 0, i6 5, i6 2, .x 7, .x 11, i6 5, i6 2, .s 0 0, i6 0], 20, 4, 0, false, true⟩), (306, lnK 3 307 20 0 5 true), (307, .b ⟨40, .l [i6 1, i6 3, .s 8 65792, i6 0, i6 4, i6 3, .s 0 0, i6 0, i6 5, i6 3, .x 6, i6 0, i6 5, i6 3, .x 7, .x 11, i6 5, i6 3, .s 0 0, i6 0], 20, 4, 0, false, true⟩), (308, lnK 4 309 20 0 5 true), (309, .b ⟨40, .l [i6 1, i6 4, .s 8 65792, i6 0, i6 4, i6 4, .s 0 0, i6 0, i6 5, i6 4, .x 6, i6 0, i6 5, i6 4, .x 7, .x 11, i6 5, i6 4, .s 0 0, i6 0], 20, 4, 0, false, true⟩), (310, lnK 5 311 20 0 5 true), (311, .b ⟨40, .l [i6 1, i6 5, .s 8 65792, i6 0, i6 4, i6 5, .s 0 0, i6 0, i6 5, i6 5, .x 6, i6 0, i6 5, i6 5, .x 7, .x 11, i6 5, i6 5, .s 0 0, i6 0], 20, 4, 0, false, true⟩), (300, .b ⟨86, .l [.p 300 0, .sy 301], 0, 0, 0, false, false⟩), (301, .t 12 5)]⟩
def lfd35 : LF := ⟨2, 47, [(0, .p 6 0), (1, i6 1000000), (5, .p 142 0)], [], .exit 0, [(5, .p 300 0)], some lhd35⟩
def lhw36 : LH := ⟨4, 520, 580, [(500, .b ⟨38, .l [i6 0, i6 0, i6 0, i6 0, i6 0, i6 0, i6 0, i6 0, i6 0], 0, 0, 0, false, false⟩)], []⟩
def lfw36 : LF := ⟨11, 91, [(5, i6 5), (6, .p 6 0), (8, .x 12), (9, .p 500 0)], [], .exit 2, [(6, .p 6 0)], some lhw36⟩
noncomputable def tab17 : Tab := addLps (addLps ({ tabk with hyp := hy17 }) 14 fi14 [lfd35]) 4 fi4 [lfw36]
theorem run17 (e : Nat) : Go.AX.okB (call tab17 9000 4 [.x 0, .x 1] ⟨H0 e , 4, 0, 0⟩) = true := by kernel_rfl
def nu17 (n : Int) (body : Int) : List Value := [.int .u8 (n),
  .int .u16 (body),
  .int .u16 (body % 2000),
  .int .i64 ((body % 2000)),
  St' (List.replicate (Int.toNat ((body % 2000))) 0),
  .int .i64 ((body % 2000)),
  St' (List.replicate (Int.toNat (512)) 0),
  St' (List.replicate (Int.toNat ((body % 2000) - 512)) 0),
  .int .i64 ((body % 2000) - 512),
  .int .i64 ((body % 2000) - 512),
  .int .i64 (512 - (body % 2000)),
  .int .i64 ((512 - (body % 2000)) % 8),
  St' (seqS (rcJ (List.replicate (Int.toNat (512)) 0) (List.replicate (Int.toNat ((body % 2000) - 512)) 0) ((512 - (body % 2000)) % 8) 2 5) 0 25),
  St' ([] : LB),
  .int .u8 (bt (seqS (rcJ (List.replicate (Int.toNat (512)) 0) (List.replicate (Int.toNat ((body % 2000) - 512)) 0) ((512 - (body % 2000)) % 8) 2 5) 0 25) 0),
  .int .i64 (((seqS (rcJ (List.replicate (Int.toNat (512)) 0) (List.replicate (Int.toNat ((body % 2000) - 512)) 0) ((512 - (body % 2000)) % 8) 2 5) 0 25).length : Int))]
theorem one17 (n : Int) (body : Int) : ∀ j, j < 1000000 → (nuL (nu17 n body) j).oneCell' = true := fun j _ => nuL_one (l := nu17 n body) rfl j
theorem path17 (n : Int) (body : Int) (b0 : 0 ≤ n) (b1 : n ≤ 255) (b2 : 0 ≤ body) (b3 : body ≤ 65535) (h0 : (n) % 6 = 3) (h1 : 512 < (body % 2000)) (h2 : ¬ (512 < (body % 2000) - 512)) (w : World) (hl : laidE w) : CwR 4 #[.int .u8 n, .int .u16 body] w (.bool true) := by
  have hout := out_bd (List.replicate (Int.toNat (512)) 0) (List.replicate (Int.toNat ((body % 2000) - 512)) 0) ((512 - (body % 2000)) % 8) (by first | (simp; done) | (rw [List.length_replicate]; omega)) (by first | (simp; done) | (rw [List.length_replicate]; omega)) (by omega) (by omega) 2 5 25 (by decide) (by decide)
  have := bt_lo (seqS (rcJ (List.replicate (Int.toNat (512)) 0) (List.replicate (Int.toNat ((body % 2000) - 512)) 0) ((512 - (body % 2000)) % 8) 2 5) 0 25) 0; have := bt_hi (seqS (rcJ (List.replicate (Int.toNat (512)) 0) (List.replicate (Int.toNat ((body % 2000) - 512)) 0) ((512 - (body % 2000)) % 8) 2 5) 0 25) 0
  have ho : ∀ k r, (k, r) ∈ hy17 → HOk (cx (nuL (nu17 n body)) (one17 n body) 1 laidE laidE_stab) k r := by
    unfold hy17
    exact hc (kRem (isX rfl) (isZ (m := 6) rfl) (denZ (m := 3) rfl) (by omega) (by omega) (by omega)) <|
     hc (kRem (isX rfl) (isZ (m := 2000) rfl) (denX rfl) (by omega) (by omega) rfl) <|
     hc (kConvF (isX rfl) tu3 (denX rfl) (fI64 (by omega) (by omega))) <|
     hc (kZer (isX rfl) (by omega) (by omega) (denX rfl)) <|
     hc (lnV rfl rfl (by first | omega | (simp <;> omega))) <|
     hc (gtcT rfl (by omega)) <|
     hc (kMidR (E := (body % 2000)) (P := 0) (Q := 512) (isX rfl) (.inl ⟨rfl, rfl⟩) (.inr ⟨_, _, rfl, (isZ (m := 512) rfl)⟩) (by omega) (by omega) (by omega) (denX (congrArg (fun k : Int => St' (List.replicate k.toNat 0)) (show (512 : Int) = 512 - (0) by omega)))) <|
     hc (kLenE (isX rfl) (denZ (m := 512) rfl) (by first | omega | (simp <;> omega))) <|
     hc (kMidR (E := (body % 2000)) (P := 512) (Q := (body % 2000)) (isX rfl) (.inr ⟨_, _, rfl, (isZ (m := 512) rfl)⟩) (.inl ⟨rfl, by first | omega | (simp <;> omega)⟩) (by omega) (by omega) (by omega) (denX (congrArg (fun k : Int => St' (List.replicate k.toNat 0)) (show ((body % 2000) - 512 : Int) = (body % 2000) - (512) by omega)))) <|
     hc (lnV rfl rfl (by first | omega | (simp <;> omega))) <|
     hc (gtcF rfl (by omega)) <|
     hc (kNeS (isX rfl) (isSx (l := ([] : LB)) 0 0 rfl) (bnT (nilF (by rw [List.length_replicate]; omega)))) <|
     hc (kMax (isX rfl) (isZ (m := 0) rfl) (denX rfl) (by omega)) <|
     hc (kNeg (isX rfl) (denX rfl) (by omega) (fI64 (by omega) (by omega))) <|
     hc (kAndG 3 8 rfl (by decide) (isX rfl) (isZ (m := 7) rfl) (denX rfl) (fI64 (by omega) (by omega)) rfl rfl (fI64 (by omega) (by omega))) <|
     hc (kByt (i := 0) (isX rfl) (isZ (m := 0) rfl) (denX rfl) rfl (by first | omega | (simp <;> omega)) rfl) <|
     hc (lnV rfl rfl (by omega)) <|
     hc (kFit (isX rfl) (by first | omega | (simp <;> omega))) <|
     hc (kNeS (isX rfl) (isSx (l := ([] : LB)) 0 0 rfl) (bnF (decide_eq_true rfl))) <|
     hnil
  exact runP (tb := tab17) (AllOk.lp1 (AllOk.lp1 ((tabkOk (nuL (nu17 n body)) (one17 n body)).hyps ho) (by omega) fi14_at fi14_body (lfCons (lpKnown rfl ⟨0, keyD, lfOkD (l := lfd35) (h := lhd35) (List.replicate (Int.toNat (512)) 0) (List.replicate (Int.toNat ((body % 2000) - 512)) 0) ((512 - (body % 2000)) % 8) (by first | (simp; done) | (rw [List.length_replicate]; omega)) (by first | (simp; done) | (rw [List.length_replicate]; omega)) (by omega) (by omega) 5 2 25 (by decide) (by decide) (by decide) (by decide) hD5_2 dA5_2 (eA1 e5_2) rfl (by kernel_rfl) (th0 := [(1, .i .i64 (.ofNat 1000000)), (2, .s 0 0), (3, .x 6), (4, .x 7), (5, .x 11)]) (sg0 := [(300, 142), (302, 29), (304, 54), (306, 81), (308, 110), (310, 141), (303, 28), (305, 53), (307, 80), (309, 109), (311, 140)]) (fun X => thCons (show Is _ (.i .i64 (.ofNat 1000000)) (.int .i64 1000000) from isI _ _) (thCons (show Is _ (.s 0 0) (St' []) from isSx (l := []) 0 0 rfl) (thXv (v := St' (List.replicate (Int.toNat (512)) 0)) rfl rfl (thXv (v := St' (List.replicate (Int.toNat ((body % 2000) - 512)) 0)) rfl rfl (thXv (v := .int .i64 ((512 - (body % 2000)) % 8)) rfl rfl thNil))))) (by kernel_rfl) (thx := [(12, .x 0), (13, .x 2), (6, .x 3), (7, .x 4), (11, .x 5)]) (thXv (v := St' (seqS (rcJ (List.replicate (Int.toNat (512)) 0) (List.replicate (Int.toNat ((body % 2000) - 512)) 0) ((512 - (body % 2000)) % 8) 2 5) 0 25)) rfl rfl (thXv (v := St' []) rfl rfl (thXv (v := St' (List.replicate (Int.toNat (512)) 0)) rfl rfl (thXv (v := St' (List.replicate (Int.toNat ((body % 2000) - 512)) 0)) rfl rfl (thXv (v := .int .i64 ((512 - (body % 2000)) % 8)) rfl rfl (thNil)))))) (by kernel_rfl)⟩) lfNil)) (by omega) (get_lps2 (by omega) (by omega) fi4_at) fi4_body (lfCons (lpKnown rfl ⟨1, keyL, lfOkW (l := lfw36) (h := lhw36) (List.replicate (Int.toNat (512)) 0) (List.replicate (Int.toNat ((body % 2000) - 512)) 0) ((512 - (body % 2000)) % 8) (by first | (simp; done) | (rw [List.length_replicate]; omega)) (by first | (simp; done) | (rw [List.length_replicate]; omega)) (by omega) (by omega) 5 2 25 (by decide) (by decide) (by decide) hL5_2 lA5_2 (eA2 e5_2) rfl (by kernel_rfl) (th0 := [(0, .x 12)]) (sg0 := [(520, 500)]) (fun X => thXv (v := St' (seqS (rcJ (List.replicate (Int.toNat (512)) 0) (List.replicate (Int.toNat ((body % 2000) - 512)) 0) ((512 - (body % 2000)) % 8) 2 5) 0 25)) rfl rfl thNil) (by kernel_rfl) (by kernel_rfl)⟩) lfNil)) rfl (get_lps (by omega)) fiB4 (fun e => run17 e ) (args := [.int .u8 n, .int .u16 body]) (by simp only [RelL, Rel]; exact ⟨_, _, rfl, rfl, ⟨_, _, rfl, rfl, rfl⟩⟩) w hl
end Go.Proofs.YtkhcgoeccmkmdaaGreatDoor.muxFair
