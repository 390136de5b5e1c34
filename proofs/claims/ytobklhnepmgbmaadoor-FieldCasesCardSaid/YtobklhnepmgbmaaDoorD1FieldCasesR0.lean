/- A part of the proof: an interpreter of the model's own code on partly known states, and that what it answers is what the program answers. No condition of its own. -/
import Derived.Test.YtobklhnepmgbmaaDoorD1FieldCasesO3
set_option maxRecDepth 100000
set_option linter.unusedVariables false
set_option linter.unusedSimpArgs false
set_option maxHeartbeats 4000000
namespace Go.Proofs.YtobklhnepmgbmaaDoor.fieldCases
open Go Go.AX Go.Proofs Go.Proofs.YtobklhnepmgbmaaDoor
def hy0 : LK := [(.rn, .x 2000000),
  (.bytes [.x 1, .x 2, .x 3, .x 4, .x 5, .x 6, .x 7, .i .u8 (.ofNat 45), .x 8, .x 9, .x 10, .x 11], .x 12),
  (.ra (.x 2000000) [.x 12, .s 4 1495280760], .x 2000001),
  (.rf (.x 2000001) 2 32, .b true),
  (.rl (.x 2000001) 2, .i .i64 (.ofNat 1)),
  (.el (.x 2000001) (.i .i64 (.ofNat 0)) 2 0, .x 13),
  (.el (.x 2000001) (.i .i64 (.ofNat 0)) 2 1, .s 4 1495280760),
  (.call 23 [.x 13], .x 14),
  (.bin .eql (.x 14) (.s 12 31393959233194794397178163043), .b true),
  (.ra (.x 2000000) [.s 4 1495280760], .x 2000002),
  (.rf (.x 2000002) 1 16, .b true),
  (.rl (.x 2000002) 1, .i .i64 (.ofNat 1)),
  (.el (.x 2000002) (.i .i64 (.ofNat 0)) 1 0, .s 4 1495280760),
  (.ra (.x 2000000) [.s 1 120], .x 2000003),
  (.rf (.x 2000003) 1 16, .b true),
  (.ra (.x 2000003) [.s 1 89], .x 2000004),
  (.rf (.x 2000004) 1 16, .b true),
  (.rl (.x 2000004) 1, .i .i64 (.ofNat 2)),
  (.el (.x 2000004) (.i .i64 (.ofNat 0)) 1 0, .s 1 120),
  (.el (.x 2000004) (.i .i64 (.ofNat 1)) 1 0, .s 1 89)]
def lh2 : LH := ⟨3, 5, 33, [(3, .b ⟨5, .y 12 31393959233194794397178163043, 0, 0, 0, true, false⟩)], [(3, .b ⟨5, .l [.x 1, .x 2, .x 3, .x 4, .x 5, .x 6, .x 7, .i .u8 (.ofNat 45), .x 8, .x 9, .x 10, .x 11], 0, 0, 0, true, false⟩)]⟩
def lf2 : LF := ⟨7, 80, [(0, .x 0), (5, .sl 3 0 12 12 false), (6, .i .i64 (.ofNat 0))], [1], (.exit 0), [(5, .sl 3 0 12 12 false)], some lh2⟩
noncomputable def tab0 : Tab := addLps ({ tabk with hyp := hy0 }) 3 fi3 [lf2]
theorem run0 : Go.AX.okB (call tab0 9000 3 [.x 0, .nils] ⟨H0 , 3, 0, 0⟩) = true := by kernel_rfl
def nu0 (up : Int) : List Value := [.int .u16 (up),
  .int .u8 ((czS 99 1 up)),
  .int .u8 ((czS 111 2 up)),
  .int .u8 ((czS 110 4 up)),
  .int .u8 ((czS 116 8 up)),
  .int .u8 ((czS 101 16 up)),
  .int .u8 ((czS 110 32 up)),
  .int .u8 ((czS 116 64 up)),
  .int .u8 ((czS 116 256 up)),
  .int .u8 ((czS 121 512 up)),
  .int .u8 ((czS 112 1024 up)),
  .int .u8 ((czS 101 2048 up)),
  St' ([u8 ((czS 99 1 up)), u8 ((czS 111 2 up)), u8 ((czS 110 4 up)), u8 ((czS 116 8 up)), u8 ((czS 101 16 up)), u8 ((czS 110 32 up)), u8 ((czS 116 64 up)), u8 45, u8 ((czS 116 256 up)), u8 ((czS 121 512 up)), u8 ((czS 112 1024 up)), u8 ((czS 101 2048 up))]),
  St' ([u8 ((czS 99 1 up)), u8 ((czS 111 2 up)), u8 ((czS 110 4 up)), u8 ((czS 116 8 up)), u8 ((czS 101 16 up)), u8 ((czS 110 32 up)), u8 ((czS 116 64 up)), u8 45, u8 ((czS 116 256 up)), u8 ((czS 121 512 up)), u8 ((czS 112 1024 up)), u8 ((czS 101 2048 up))]),
  St' (lowS ([u8 ((czS 99 1 up)), u8 ((czS 111 2 up)), u8 ((czS 110 4 up)), u8 ((czS 116 8 up)), u8 ((czS 101 16 up)), u8 ((czS 110 32 up)), u8 ((czS 116 64 up)), u8 45, u8 ((czS 116 256 up)), u8 ((czS 121 512 up)), u8 ((czS 112 1024 up)), u8 ((czS 101 2048 up))]))]
def ro0 (up : Int) : List Value := [rwS ([] : List LB),
  rwG prC (([] : List (LB × LB)) ++ [([u8 ((czS 99 1 up)), u8 ((czS 111 2 up)), u8 ((czS 110 4 up)), u8 ((czS 116 8 up)), u8 ((czS 101 16 up)), u8 ((czS 110 32 up)), u8 ((czS 116 64 up)), u8 45, u8 ((czS 116 256 up)), u8 ((czS 121 512 up)), u8 ((czS 112 1024 up)), u8 ((czS 101 2048 up))], [u8 120, u8 44, u8 32, u8 89])]),
  rwS (([] : List LB) ++ [[u8 120, u8 44, u8 32, u8 89]]),
  rwS (([] : List LB) ++ [[u8 120]]),
  rwS ((([] : List LB) ++ [[u8 120]]) ++ [[u8 89]])]
theorem on0 (up : Int) : ∀ j, (nuL (nu0 up) j).oneCell' = true := nuL_one (l := nu0 up) rfl
theorem path0 (up : Int) (b0 : 0 ≤ up) (b1 : up ≤ 65535) (w : World) (hl : laidE w) : CwR 3 #[.int .u16 up, .slice none 0 0] w (.bool true) := by
  have := cz_rng 99 1 up (by omega)
  have := cz_rng 111 2 up (by omega)
  have := cz_rng 110 4 up (by omega)
  have := cz_rng 116 8 up (by omega)
  have := cz_rng 101 16 up (by omega)
  have := cz_rng 110 32 up (by omega)
  have := cz_rng 116 64 up (by omega)
  have := cz_rng 116 256 up (by omega)
  have := cz_rng 121 512 up (by omega)
  have := cz_rng 112 1024 up (by omega)
  have := cz_rng 101 2048 up (by omega)
  have : (lowS ([u8 ((czS 99 1 up)), u8 ((czS 111 2 up)), u8 ((czS 110 4 up)), u8 ((czS 116 8 up)), u8 ((czS 101 16 up)), u8 ((czS 110 32 up)), u8 ((czS 116 64 up)), u8 45, u8 ((czS 116 256 up)), u8 ((czS 121 512 up)), u8 ((czS 112 1024 up)), u8 ((czS 101 2048 up))])).length = ([u8 ((czS 99 1 up)), u8 ((czS 111 2 up)), u8 ((czS 110 4 up)), u8 ((czS 116 8 up)), u8 ((czS 101 16 up)), u8 ((czS 110 32 up)), u8 ((czS 116 64 up)), u8 45, u8 ((czS 116 256 up)), u8 ((czS 121 512 up)), u8 ((czS 112 1024 up)), u8 ((czS 101 2048 up))]).length := List.length_map ..
  have : lowS ([u8 ((czS 99 1 up)), u8 ((czS 111 2 up)), u8 ((czS 110 4 up)), u8 ((czS 116 8 up)), u8 ((czS 101 16 up)), u8 ((czS 110 32 up)), u8 ((czS 116 64 up)), u8 45, u8 ((czS 116 256 up)), u8 ((czS 121 512 up)), u8 ((czS 112 1024 up)), u8 ((czS 101 2048 up))]) = [u8 99, u8 111, u8 110, u8 116, u8 101, u8 110, u8 116, u8 45, u8 116, u8 121, u8 112, u8 101] := low_bn up
  have ho : ∀ k r, (k, r) ∈ hy0 → HOk (cx (nuX (nu0 up) (rX (ro0 up) (fun _ => .bool true))) (nuX_one (on0 up)) 0 laidE laidE_stab) k r := by
    unfold hy0
    exact hc (kRn (denX rfl)) <|
     hc (kBytesB (bs := [u8 ((czS 99 1 up)), u8 ((czS 111 2 up)), u8 ((czS 110 4 up)), u8 ((czS 116 8 up)), u8 ((czS 101 16 up)), u8 ((czS 110 32 up)), u8 ((czS 116 64 up)), u8 45, u8 ((czS 116 256 up)), u8 ((czS 121 512 up)), u8 ((czS 112 1024 up)), u8 ((czS 101 2048 up))]) (.cons (isB8 (isX rfl) (by omega) (by omega)) (.cons (isB8 (isX rfl) (by omega) (by omega)) (.cons (isB8 (isX rfl) (by omega) (by omega)) (.cons (isB8 (isX rfl) (by omega) (by omega)) (.cons (isB8 (isX rfl) (by omega) (by omega)) (.cons (isB8 (isX rfl) (by omega) (by omega)) (.cons (isB8 (isX rfl) (by omega) (by omega)) (.cons (isB8 (isZ (m := 45) rfl) (by omega) (by omega)) (.cons (isB8 (isX rfl) (by omega) (by omega)) (.cons (isB8 (isX rfl) (by omega) (by omega)) (.cons (isB8 (isX rfl) (by omega) (by omega)) (.cons (isB8 (isX rfl) (by omega) (by omega)) .nil)))))))))))) (denX rfl)) <|
     hc (kRaG (f := prC) (l := ([] : List (LB × LB))) (a := ([u8 ((czS 99 1 up)), u8 ((czS 111 2 up)), u8 ((czS 110 4 up)), u8 ((czS 116 8 up)), u8 ((czS 101 16 up)), u8 ((czS 110 32 up)), u8 ((czS 116 64 up)), u8 45, u8 ((czS 116 256 up)), u8 ((czS 121 512 up)), u8 ((czS 112 1024 up)), u8 ((czS 101 2048 up))], [u8 120, u8 44, u8 32, u8 89])) (isX rfl) (isL2 (isX rfl) (isSx (l := [u8 120, u8 44, u8 32, u8 89]) 4 1495280760 rfl)) (denX rfl)) <|
     hc (kRfG prC_len (isX rfl) (by first | omega | (simp <;> omega)) (by first | omega | (simp <;> omega))) <|
     hc (kRlG prC_len (isX rfl) (denZ (m := 1) rfl) (by first | omega | (simp <;> omega))) <|
     hc (kElG (j := 0) (d := ([], [])) prC_len (by decide) (isX rfl) (isZ (m := 0) rfl) (denX rfl) rfl (by simp) rfl) <|
     hc (kElG (j := 0) (d := ([], [])) prC_len (by decide) (isX rfl) (isZ (m := 0) rfl) (denSl (l := [u8 120, u8 44, u8 32, u8 89]) rfl (by decide)) rfl (by simp) rfl) <|
     hc (hokLower (s := [u8 ((czS 99 1 up)), u8 ((czS 111 2 up)), u8 ((czS 110 4 up)), u8 ((czS 116 8 up)), u8 ((czS 101 16 up)), u8 ((czS 110 32 up)), u8 ((czS 116 64 up)), u8 45, u8 ((czS 116 256 up)), u8 ((czS 121 512 up)), u8 ((czS 112 1024 up)), u8 ((czS 101 2048 up))]) (isX rfl) (denX rfl) (by first | omega | (simp only [List.length_cons, List.length_nil]; omega)) (by first | omega | (simp only [List.length_cons, List.length_nil]; omega))) <|
     hc (kEqS (isX rfl) (isSx (l := [u8 99, u8 111, u8 110, u8 116, u8 101, u8 110, u8 116, u8 45, u8 116, u8 121, u8 112, u8 101]) 12 31393959233194794397178163043 rfl) (by first | exact decide_eq_true rfl | exact decide_eq_true ‹_› | exact decide_eq_false ‹_›)) <|
     hc (kRa (isX rfl) (isSx (l := [u8 120, u8 44, u8 32, u8 89]) 4 1495280760 rfl) (denX rfl)) <|
     hc (kRf (isX rfl) (by first | omega | (simp <;> omega)) (by first | omega | (simp <;> omega))) <|
     hc (kRl (isX rfl) (denZ (m := 1) rfl) (by first | omega | (simp <;> omega))) <|
     hc (kEl (j := 0) (isX rfl) (isZ (m := 0) rfl) (denSl rfl (by decide)) rfl (by decide)) <|
     hc (kRa (isX rfl) (isSx (l := [u8 120]) 1 120 rfl) (denX rfl)) <|
     hc (kRf (isX rfl) (by first | omega | (simp <;> omega)) (by first | omega | (simp <;> omega))) <|
     hc (kRa (isX rfl) (isSx (l := [u8 89]) 1 89 rfl) (denX rfl)) <|
     hc (kRf (isX rfl) (by first | omega | (simp <;> omega)) (by first | omega | (simp <;> omega))) <|
     hc (kRl (isX rfl) (denZ (m := 2) rfl) (by first | omega | (simp <;> omega))) <|
     hc (kEl (j := 0) (isX rfl) (isZ (m := 0) rfl) (denSl rfl (by decide)) rfl (by decide)) <|
     hc (kEl (j := 1) (isX rfl) (isZ (m := 1) rfl) (denSl rfl (by decide)) rfl (by decide)) <|
     hnil
  exact runP (tb := tab0) (AllOk.lp1 ((tabkOk (nuX (nu0 up) (rX (ro0 up) (fun _ => .bool true))) (nuX_one (on0 up))).hyps ho) (by omega) fi3_at fi3_body (lfCons (lpKnown rfl ⟨0, keyUp0, lfOkUp0_0 (l := lf2) (h := lh2) up (0, ([] : LB).length) (mkIUp0 up 0 (([] : LB).length) ⟨by omega, by omega, by omega⟩) rfl (by kernel_rfl) (th0 := [(0, .x 0)]) (sg0 := []) (fun X => thXv (v := .int .u16 (up)) rfl rfl (thNil)) (by kernel_rfl) (thx := [(1, .x 0), (2, .x 1), (3, .x 2), (4, .x 3), (5, .x 4), (6, .x 5), (7, .x 6), (8, .x 7), (9, .x 8), (10, .x 9), (11, .x 10)]) (thXv (v := .int .u8 ((czS 99 1 up))) rfl rfl (thXv (v := .int .u8 ((czS 111 2 up))) rfl rfl (thXv (v := .int .u8 ((czS 110 4 up))) rfl rfl (thXv (v := .int .u8 ((czS 116 8 up))) rfl rfl (thXv (v := .int .u8 ((czS 101 16 up))) rfl rfl (thXv (v := .int .u8 ((czS 110 32 up))) rfl rfl (thXv (v := .int .u8 ((czS 116 64 up))) rfl rfl (thXv (v := .int .u8 ((czS 116 256 up))) rfl rfl (thXv (v := .int .u8 ((czS 121 512 up))) rfl rfl (thXv (v := .int .u8 ((czS 112 1024 up))) rfl rfl (thXv (v := .int .u8 ((czS 101 2048 up))) rfl rfl (thNil)))))))))))) (by kernel_rfl)⟩) lfNil)) rfl (get_lps (by omega)) fiB3 (run0 ) (args := [.int .u16 up, .slice none 0 0]) (by simp only [RelL, Rel]; exact ⟨_, _, rfl, rfl, ⟨_, _, rfl, rfl, rfl⟩⟩) w hl
def hy1 : LK := [(.rn, .x 2000000),
  (.slen (.x 1), .i .i64 (.ofNat 0)),
  (.bytes [.x 2, .x 3, .x 4, .x 5, .x 6, .x 7, .x 8, .i .u8 (.ofNat 45), .x 9, .x 10, .x 11, .x 12], .x 13),
  (.ra (.x 2000000) [.x 13, .s 4 1495280760], .x 2000001),
  (.rf (.x 2000001) 2 32, .b true),
  (.rl (.x 2000001) 2, .i .i64 (.ofNat 1)),
  (.el (.x 2000001) (.i .i64 (.ofNat 0)) 2 0, .x 14),
  (.el (.x 2000001) (.i .i64 (.ofNat 0)) 2 1, .s 4 1495280760),
  (.call 23 [.x 14], .x 15),
  (.bin .eql (.x 15) (.s 12 31393959233194794397178163043), .b true),
  (.ra (.x 2000000) [.s 4 1495280760], .x 2000002),
  (.rf (.x 2000002) 1 16, .b true),
  (.rl (.x 2000002) 1, .i .i64 (.ofNat 1)),
  (.el (.x 2000002) (.i .i64 (.ofNat 0)) 1 0, .s 4 1495280760),
  (.ra (.x 2000000) [.s 1 120], .x 2000003),
  (.rf (.x 2000003) 1 16, .b true),
  (.ra (.x 2000003) [.s 1 89], .x 2000004),
  (.rf (.x 2000004) 1 16, .b true),
  (.rl (.x 2000004) 1, .i .i64 (.ofNat 2)),
  (.el (.x 2000004) (.i .i64 (.ofNat 0)) 1 0, .s 1 120),
  (.el (.x 2000004) (.i .i64 (.ofNat 1)) 1 0, .s 1 89)]
def lh3 : LH := ⟨3, 5, 33, [(3, .b ⟨5, .y 12 31393959233194794397178163043, 0, 0, 0, true, false⟩)], [(3, .b ⟨5, .l [.x 2, .x 3, .x 4, .x 5, .x 6, .x 7, .x 8, .i .u8 (.ofNat 45), .x 9, .x 10, .x 11, .x 12], 0, 0, 0, true, false⟩)]⟩
def lf3 : LF := ⟨7, 80, [(0, .x 0), (5, .sl 3 0 12 12 false), (6, .i .i64 (.ofNat 0))], [1], (.exit 0), [(5, .sl 3 0 12 12 false)], some lh3⟩
noncomputable def tab1 : Tab := addLps ({ tabk with hyp := hy1 }) 3 fi3 [lf3]
theorem run1 : Go.AX.okB (call tab1 9000 3 [.x 0, .x 1] ⟨H0 , 3, 0, 0⟩) = true := by kernel_rfl
def nu1 (up : Int) (ad_z : Addr) : List Value := [.int .u16 (up),
  .slice (some ad_z) 0 0,
  .int .u8 ((czS 99 1 up)),
  .int .u8 ((czS 111 2 up)),
  .int .u8 ((czS 110 4 up)),
  .int .u8 ((czS 116 8 up)),
  .int .u8 ((czS 101 16 up)),
  .int .u8 ((czS 110 32 up)),
  .int .u8 ((czS 116 64 up)),
  .int .u8 ((czS 116 256 up)),
  .int .u8 ((czS 121 512 up)),
  .int .u8 ((czS 112 1024 up)),
  .int .u8 ((czS 101 2048 up)),
  St' ([u8 ((czS 99 1 up)), u8 ((czS 111 2 up)), u8 ((czS 110 4 up)), u8 ((czS 116 8 up)), u8 ((czS 101 16 up)), u8 ((czS 110 32 up)), u8 ((czS 116 64 up)), u8 45, u8 ((czS 116 256 up)), u8 ((czS 121 512 up)), u8 ((czS 112 1024 up)), u8 ((czS 101 2048 up))]),
  St' ([u8 ((czS 99 1 up)), u8 ((czS 111 2 up)), u8 ((czS 110 4 up)), u8 ((czS 116 8 up)), u8 ((czS 101 16 up)), u8 ((czS 110 32 up)), u8 ((czS 116 64 up)), u8 45, u8 ((czS 116 256 up)), u8 ((czS 121 512 up)), u8 ((czS 112 1024 up)), u8 ((czS 101 2048 up))]),
  St' (lowS ([u8 ((czS 99 1 up)), u8 ((czS 111 2 up)), u8 ((czS 110 4 up)), u8 ((czS 116 8 up)), u8 ((czS 101 16 up)), u8 ((czS 110 32 up)), u8 ((czS 116 64 up)), u8 45, u8 ((czS 116 256 up)), u8 ((czS 121 512 up)), u8 ((czS 112 1024 up)), u8 ((czS 101 2048 up))]))]
def ro1 (up : Int) (ad_z : Addr) : List Value := [rwS ([] : List LB),
  rwG prC (([] : List (LB × LB)) ++ [([u8 ((czS 99 1 up)), u8 ((czS 111 2 up)), u8 ((czS 110 4 up)), u8 ((czS 116 8 up)), u8 ((czS 101 16 up)), u8 ((czS 110 32 up)), u8 ((czS 116 64 up)), u8 45, u8 ((czS 116 256 up)), u8 ((czS 121 512 up)), u8 ((czS 112 1024 up)), u8 ((czS 101 2048 up))], [u8 120, u8 44, u8 32, u8 89])]),
  rwS (([] : List LB) ++ [[u8 120, u8 44, u8 32, u8 89]]),
  rwS (([] : List LB) ++ [[u8 120]]),
  rwS ((([] : List LB) ++ [[u8 120]]) ++ [[u8 89]])]
theorem on1 (up : Int) (ad_z : Addr) : ∀ j, (nuL (nu1 up ad_z) j).oneCell' = true := nuL_one (l := nu1 up ad_z) rfl
theorem path1 (up : Int) (ad_z : Addr) (b0 : 0 ≤ up) (b1 : up ≤ 65535) (w : World) (hl : laidE w) : CwR 3 #[.int .u16 up, .slice (some ad_z) 0 0] w (.bool true) := by
  have := cz_rng 99 1 up (by omega)
  have := cz_rng 111 2 up (by omega)
  have := cz_rng 110 4 up (by omega)
  have := cz_rng 116 8 up (by omega)
  have := cz_rng 101 16 up (by omega)
  have := cz_rng 110 32 up (by omega)
  have := cz_rng 116 64 up (by omega)
  have := cz_rng 116 256 up (by omega)
  have := cz_rng 121 512 up (by omega)
  have := cz_rng 112 1024 up (by omega)
  have := cz_rng 101 2048 up (by omega)
  have : (lowS ([u8 ((czS 99 1 up)), u8 ((czS 111 2 up)), u8 ((czS 110 4 up)), u8 ((czS 116 8 up)), u8 ((czS 101 16 up)), u8 ((czS 110 32 up)), u8 ((czS 116 64 up)), u8 45, u8 ((czS 116 256 up)), u8 ((czS 121 512 up)), u8 ((czS 112 1024 up)), u8 ((czS 101 2048 up))])).length = ([u8 ((czS 99 1 up)), u8 ((czS 111 2 up)), u8 ((czS 110 4 up)), u8 ((czS 116 8 up)), u8 ((czS 101 16 up)), u8 ((czS 110 32 up)), u8 ((czS 116 64 up)), u8 45, u8 ((czS 116 256 up)), u8 ((czS 121 512 up)), u8 ((czS 112 1024 up)), u8 ((czS 101 2048 up))]).length := List.length_map ..
  have : lowS ([u8 ((czS 99 1 up)), u8 ((czS 111 2 up)), u8 ((czS 110 4 up)), u8 ((czS 116 8 up)), u8 ((czS 101 16 up)), u8 ((czS 110 32 up)), u8 ((czS 116 64 up)), u8 45, u8 ((czS 116 256 up)), u8 ((czS 121 512 up)), u8 ((czS 112 1024 up)), u8 ((czS 101 2048 up))]) = [u8 99, u8 111, u8 110, u8 116, u8 101, u8 110, u8 116, u8 45, u8 116, u8 121, u8 112, u8 101] := low_bn up
  have ho : ∀ k r, (k, r) ∈ hy1 → HOk (cx (nuX (nu1 up ad_z) (rX (ro1 up ad_z) (fun _ => .bool true))) (nuX_one (on1 up ad_z)) 0 laidE laidE_stab) k r := by
    unfold hy1
    exact hc (kRn (denX rfl)) <|
     hc (kSlen (isX rfl) (denZ (m := 0) rfl) rfl) <|
     hc (kBytesB (bs := [u8 ((czS 99 1 up)), u8 ((czS 111 2 up)), u8 ((czS 110 4 up)), u8 ((czS 116 8 up)), u8 ((czS 101 16 up)), u8 ((czS 110 32 up)), u8 ((czS 116 64 up)), u8 45, u8 ((czS 116 256 up)), u8 ((czS 121 512 up)), u8 ((czS 112 1024 up)), u8 ((czS 101 2048 up))]) (.cons (isB8 (isX rfl) (by omega) (by omega)) (.cons (isB8 (isX rfl) (by omega) (by omega)) (.cons (isB8 (isX rfl) (by omega) (by omega)) (.cons (isB8 (isX rfl) (by omega) (by omega)) (.cons (isB8 (isX rfl) (by omega) (by omega)) (.cons (isB8 (isX rfl) (by omega) (by omega)) (.cons (isB8 (isX rfl) (by omega) (by omega)) (.cons (isB8 (isZ (m := 45) rfl) (by omega) (by omega)) (.cons (isB8 (isX rfl) (by omega) (by omega)) (.cons (isB8 (isX rfl) (by omega) (by omega)) (.cons (isB8 (isX rfl) (by omega) (by omega)) (.cons (isB8 (isX rfl) (by omega) (by omega)) .nil)))))))))))) (denX rfl)) <|
     hc (kRaG (f := prC) (l := ([] : List (LB × LB))) (a := ([u8 ((czS 99 1 up)), u8 ((czS 111 2 up)), u8 ((czS 110 4 up)), u8 ((czS 116 8 up)), u8 ((czS 101 16 up)), u8 ((czS 110 32 up)), u8 ((czS 116 64 up)), u8 45, u8 ((czS 116 256 up)), u8 ((czS 121 512 up)), u8 ((czS 112 1024 up)), u8 ((czS 101 2048 up))], [u8 120, u8 44, u8 32, u8 89])) (isX rfl) (isL2 (isX rfl) (isSx (l := [u8 120, u8 44, u8 32, u8 89]) 4 1495280760 rfl)) (denX rfl)) <|
     hc (kRfG prC_len (isX rfl) (by first | omega | (simp <;> omega)) (by first | omega | (simp <;> omega))) <|
     hc (kRlG prC_len (isX rfl) (denZ (m := 1) rfl) (by first | omega | (simp <;> omega))) <|
     hc (kElG (j := 0) (d := ([], [])) prC_len (by decide) (isX rfl) (isZ (m := 0) rfl) (denX rfl) rfl (by simp) rfl) <|
     hc (kElG (j := 0) (d := ([], [])) prC_len (by decide) (isX rfl) (isZ (m := 0) rfl) (denSl (l := [u8 120, u8 44, u8 32, u8 89]) rfl (by decide)) rfl (by simp) rfl) <|
     hc (hokLower (s := [u8 ((czS 99 1 up)), u8 ((czS 111 2 up)), u8 ((czS 110 4 up)), u8 ((czS 116 8 up)), u8 ((czS 101 16 up)), u8 ((czS 110 32 up)), u8 ((czS 116 64 up)), u8 45, u8 ((czS 116 256 up)), u8 ((czS 121 512 up)), u8 ((czS 112 1024 up)), u8 ((czS 101 2048 up))]) (isX rfl) (denX rfl) (by first | omega | (simp only [List.length_cons, List.length_nil]; omega)) (by first | omega | (simp only [List.length_cons, List.length_nil]; omega))) <|
     hc (kEqS (isX rfl) (isSx (l := [u8 99, u8 111, u8 110, u8 116, u8 101, u8 110, u8 116, u8 45, u8 116, u8 121, u8 112, u8 101]) 12 31393959233194794397178163043 rfl) (by first | exact decide_eq_true rfl | exact decide_eq_true ‹_› | exact decide_eq_false ‹_›)) <|
     hc (kRa (isX rfl) (isSx (l := [u8 120, u8 44, u8 32, u8 89]) 4 1495280760 rfl) (denX rfl)) <|
     hc (kRf (isX rfl) (by first | omega | (simp <;> omega)) (by first | omega | (simp <;> omega))) <|
     hc (kRl (isX rfl) (denZ (m := 1) rfl) (by first | omega | (simp <;> omega))) <|
     hc (kEl (j := 0) (isX rfl) (isZ (m := 0) rfl) (denSl rfl (by decide)) rfl (by decide)) <|
     hc (kRa (isX rfl) (isSx (l := [u8 120]) 1 120 rfl) (denX rfl)) <|
     hc (kRf (isX rfl) (by first | omega | (simp <;> omega)) (by first | omega | (simp <;> omega))) <|
     hc (kRa (isX rfl) (isSx (l := [u8 89]) 1 89 rfl) (denX rfl)) <|
     hc (kRf (isX rfl) (by first | omega | (simp <;> omega)) (by first | omega | (simp <;> omega))) <|
     hc (kRl (isX rfl) (denZ (m := 2) rfl) (by first | omega | (simp <;> omega))) <|
     hc (kEl (j := 0) (isX rfl) (isZ (m := 0) rfl) (denSl rfl (by decide)) rfl (by decide)) <|
     hc (kEl (j := 1) (isX rfl) (isZ (m := 1) rfl) (denSl rfl (by decide)) rfl (by decide)) <|
     hnil
  exact runP (tb := tab1) (AllOk.lp1 ((tabkOk (nuX (nu1 up ad_z) (rX (ro1 up ad_z) (fun _ => .bool true))) (nuX_one (on1 up ad_z))).hyps ho) (by omega) fi3_at fi3_body (lfCons (lpKnown rfl ⟨0, keyUp0, lfOkUp0_0 (l := lf3) (h := lh3) up (0, ([] : LB).length) (mkIUp0 up 0 (([] : LB).length) ⟨by omega, by omega, by omega⟩) rfl (by kernel_rfl) (th0 := [(0, .x 0)]) (sg0 := []) (fun X => thXv (v := .int .u16 (up)) rfl rfl (thNil)) (by kernel_rfl) (thx := [(2, .x 0), (3, .x 1), (4, .x 2), (5, .x 3), (6, .x 4), (7, .x 5), (8, .x 6), (9, .x 7), (10, .x 8), (11, .x 9), (12, .x 10)]) (thXv (v := .int .u8 ((czS 99 1 up))) rfl rfl (thXv (v := .int .u8 ((czS 111 2 up))) rfl rfl (thXv (v := .int .u8 ((czS 110 4 up))) rfl rfl (thXv (v := .int .u8 ((czS 116 8 up))) rfl rfl (thXv (v := .int .u8 ((czS 101 16 up))) rfl rfl (thXv (v := .int .u8 ((czS 110 32 up))) rfl rfl (thXv (v := .int .u8 ((czS 116 64 up))) rfl rfl (thXv (v := .int .u8 ((czS 116 256 up))) rfl rfl (thXv (v := .int .u8 ((czS 121 512 up))) rfl rfl (thXv (v := .int .u8 ((czS 112 1024 up))) rfl rfl (thXv (v := .int .u8 ((czS 101 2048 up))) rfl rfl (thNil)))))))))))) (by kernel_rfl)⟩) lfNil)) rfl (get_lps (by omega)) fiB3 (run1 ) (args := [.int .u16 up, .slice (some ad_z) 0 0]) (by simp only [RelL, Rel]; exact ⟨_, _, rfl, rfl, ⟨_, _, rfl, rfl, rfl⟩⟩) w hl
def hy2 : LK := [(.rn, .x 2000001),
  (.rl (.x 2000000) 2, .x 1),
  (.bin .gtr (.x 1) (.i .i64 (.ofNat 10)), .b true)]
theorem run2 : Go.AX.okB (call (tbl hy2) 9000 3 [.x 0, .sr 3] ⟨addR 3 [.r 2000000 29 2 true] (H0 ), 3 + List.length (α := Ent) [.r 2000000 29 2 true], 0, 0⟩) = true := by kernel_rfl
def nu2 (up : Int) (blk_z : Nat) (base_z : Nat) (es_z : Nat) (z : List (LB × LB)) : List Value := [.int .u16 (up),
  .int .i64 ((z.length : Int))]
def ro2 (up : Int) (blk_z : Nat) (base_z : Nat) (es_z : Nat) (z : List (LB × LB)) : List Value := [rwG prC z,
  rwS ([] : List LB)]
theorem on2 (up : Int) (blk_z : Nat) (base_z : Nat) (es_z : Nat) (z : List (LB × LB)) : ∀ j, (nuL (nu2 up blk_z base_z es_z z) j).oneCell' = true := nuL_one (l := nu2 up blk_z base_z es_z z) rfl
theorem path2 (up : Int) (blk_z : Nat) (base_z : Nat) (es_z : Nat) (z : List (LB × LB)) (b0 : 0 ≤ up) (b1 : up ≤ 65535) (b2 : ∀ n, n ∈ z → prB n) (b3 : ∀ q, q ∈ z → q.1.length ≤ 140737488351232) (b4 : ∀ q, q ∈ z → q.2.length ≤ 140737488351232) (b5 : z.length ≤ 9223372036854775807) (h0 : 10 < (z.length : Int)) (w : World) (hl : laidE w) (w_z : InRow w 2 (z.flatMap prC) blk_z base_z z.length es_z) (g_z : (H0 ).get blk_z = none) : CwR 3 #[.int .u16 up, .slice (some ⟨blk_z, base_z, none⟩) z.length es_z] w (.bool true) := by
  have ho : ∀ k r, (k, r) ∈ hy2 → HOk (cx (nuX (nu2 up blk_z base_z es_z z) (rX (ro2 up blk_z base_z es_z z) (fun _ => .bool true))) (nuX_one (on2 up blk_z base_z es_z z)) 0 laidE laidE_stab) k r := by
    unfold hy2
    exact hc (kRn (denX rfl)) <|
     hc (kRlG prC_len (isX rfl) (denX rfl) (by first | omega | (simp <;> omega))) <|
     hc (gtcT rfl (by omega)) <|
     hnil
  obtain ⟨fi, hfi, hb⟩ := fiE
  exact runPR (tb := (tbl hy2)) ((tabkOk (nuX (nu2 up blk_z base_z es_z z) (rX (ro2 up blk_z base_z es_z z) (fun _ => .bool true))) (nuX_one (on2 up blk_z base_z es_z z))).hyps ho) rfl hfi hb [.r 2000000 29 2 true] [⟨blk_z, base_z, z.length, es_z⟩] (run2 ) (args := [.int .u16 up, .slice (some ⟨blk_z, base_z, none⟩) z.length es_z]) ⟨_, _, rfl, rfl, ⟨_, _, rfl, relSr w_z.room, rfl⟩⟩ w hl rfl (by decide) (args1 (w_z.arg (g_z ) rfl)) nodup1
end Go.Proofs.YtobklhnepmgbmaaDoor.fieldCases
