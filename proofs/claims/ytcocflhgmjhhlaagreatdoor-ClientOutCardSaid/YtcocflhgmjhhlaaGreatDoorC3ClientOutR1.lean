/- A part of the proof: an interpreter of the model's own code on partly known states, and that what it answers is what the program answers. No condition of its own. -/
import Derived.Test.YtcocflhgmjhhlaaGreatDoorC3ClientOutO
set_option maxRecDepth 100000
set_option linter.unusedVariables false
set_option linter.unusedSimpArgs false
set_option maxHeartbeats 4000000
namespace Go.Proofs.YtcocflhgmjhhlaaGreatDoor.clientOut
open Go Go.AX Go.Proofs Go.Proofs.YtcocflhgmjhhlaaGreatDoor
def hy4 : LK := [(.rl (.x 2000000) 1, .x 1),
  (.bin .gtr (.x 1) (.i .i64 (.ofNat 30)), .b false),
  (.bin .rem (.x 0) (.i .u16 (.ofNat 1000)), .x 2),
  (.conv 3 (.x 2), .x 3),
  (.bin .eql (.i .i64 (.ofNat 0)) (.x 4), .b true)]
def lh2 : LH := ⟨4, 7, 18, [(4, .r 2000000 5 1 true), (6, .b ⟨112, .l [.i .i64 (.ofNat 1000), .i .i64 (.ofNat 100), .x 3, .i .i64 (.ofNat 0), .p 5 0, .b false, .nils], 0, 0, 0, false, false⟩)], [(4, .r 2000001 5 1 true), (6, .b ⟨112, .l [.i .i64 (.ofNat 1000), .i .i64 (.ofNat 100), .x 5, .i .i64 (.ofNat 0), .p 5 0, .b false, .nils], 0, 0, 0, false, false⟩)]⟩
def lf2 : LF := ⟨9, 96, [(0, .sr 4), (5, .x 3), (6, .p 6 0), (7, .i .i64 (.ofNat 0)), (8, .b true), (9, .i .i64 (.ofNat 0))], [], (.exit 0), [(0, .sr 4), (5, .x 5), (6, .p 6 0), (7, .x 4), (8, .b true)], some lh2⟩
noncomputable def tab4 : Tab := addLps ({ tabk with hyp := hy4 }) 6 fi6 [lf2]
theorem run4 : Go.AX.okB (call tab4 9000 6 [.sr 4, .x 0] ⟨addR 4 [.r 2000000 5 1 true] (H0 ), 4 + List.length (α := Ent) [.r 2000000 5 1 true], 0, 0⟩) = true := by kernel_rfl
def nu4 (blk_l : Nat) (base_l : Nat) (es_l : Nat) (l : List Int) (out : Int) : List Value := [.int .u16 (out),
  .int .i64 ((l.length : Int)),
  .int .u16 (out % 1000),
  .int .i64 ((out % 1000)),
  .int .i64 ((tlN 0 (out % 1000) l)),
  .int .i64 ((out % 1000))]
def ro4 (blk_l : Nat) (base_l : Nat) (es_l : Nat) (l : List Int) (out : Int) : List Value := [rwI .u8 l,
  rwI .u8 l]
theorem on4 (blk_l : Nat) (base_l : Nat) (es_l : Nat) (l : List Int) (out : Int) : ∀ j, (nuL (nu4 blk_l base_l es_l l out) j).oneCell' = true := nuL_one (l := nu4 blk_l base_l es_l l out) rfl
theorem path4 (blk_l : Nat) (base_l : Nat) (es_l : Nat) (l : List Int) (out : Int) (b0 : ∀ n, n ∈ l → 0 ≤ n ∧ n ≤ 255) (b1 : l.length ≤ 9223372036854775807) (b2 : 0 ≤ out) (b3 : out ≤ 65535) (h0 : ¬ (30 < (l.length : Int))) (h1 : (tlB 0 (out % 1000) l) = true) (h2 : (tlN 0 (out % 1000) l) = 0) (w : World) (hl : laidE w) (w_l : InRow w 1 (l.map (Value.int .u8)) blk_l base_l l.length es_l) (g_l : (H0 ).get blk_l = none) : CwR 6 #[.slice (some ⟨blk_l, base_l, none⟩) l.length es_l, .int .u16 out] w (.bool true) := by
  have hrg := tl_rng l 0 (out % 1000) (by assumption) (by omega) (by omega)
  have ho : ∀ k r, (k, r) ∈ hy4 → HOk (cx (nuX (nu4 blk_l base_l es_l l out) (rX (ro4 blk_l base_l es_l l out) (fun _ => .bool true))) (nuX_one (on4 blk_l base_l es_l l out)) 0 laidE laidE_stab) k r := by
    unfold hy4
    exact hc (kRlI (isX rfl) (denX rfl) (by first | omega | (simp <;> omega))) <|
     hc (gtcF rfl (by omega)) <|
     hc (kRem (isX rfl) (isZ (m := 1000) rfl) (denX rfl) (by omega) (by omega) rfl) <|
     hc (kConvF (isX rfl) tu3 (denX rfl) (fI64 (by omega) (by omega))) <|
     hc (kEqI (isZ (m := 0) rfl) (isX rfl) (decide_eq_true (by omega))) <|
     hnil
  exact runPR (tb := tab4) (AllOk.lp1 ((tabkOk (nuX (nu4 blk_l base_l es_l l out) (rX (ro4 blk_l base_l es_l l out) (fun _ => .bool true))) (nuX_one (on4 blk_l base_l es_l l out))).hyps ho) (by omega) fi6_at fi6_body (lfCons (lpKnown rfl ⟨0, keyOc, lfOkOc_0 (l := lf2) (h := lh2) l (out % 1000) (tlN 0 (out % 1000) l) (tlB 0 (out % 1000) l) (by assumption) (by assumption) (0, (0 : Int), (0 : Int)) (mkIOc l (out % 1000) (tlN 0 (out % 1000) l) (tlB 0 (out % 1000) l) 0 (0 : Int) (0 : Int) ⟨by omega, by omega, by omega, by assumption, by omega, by omega, by omega, by omega, fun _ => rfl, fun _ => rfl, fun h => by omega, fun h => by omega, fun _ => rfl, fun h => by omega, by omega⟩) rfl (by kernel_rfl) (th0 := [(0, .i .i64 (.ofNat 0)), (1, .i .i64 (.ofNat 0)), (2, .x 3), (2000000, .x 2000000)]) (sg0 := []) (fun X => thCons (show Is _ (.i .i64 (.ofNat 0)) (.int .i64 ((0 : Int))) from isTo (v := .int .i64 0) (isI _ _) (by first | rfl | (congr 1; omega))) (thCons (show Is _ (.i .i64 (.ofNat 0)) (.int .i64 ((0 : Int))) from isTo (v := .int .i64 0) (isI _ _) (by first | rfl | (congr 1; omega))) (thXv (v := .int .i64 ((out % 1000))) rfl rfl (thXv (v := rwI .u8 l) rfl rfl (thNil))))) (by kernel_rfl) (thx := [(4, .x 0), (5, .x 1), (2000001, .x 2000000)]) (thXv (v := .int .i64 ((tlN 0 (out % 1000) l))) rfl rfl (thXv (v := .int .i64 ((out % 1000))) rfl rfl (thXv (v := rwI .u8 l) rfl rfl (thNil)))) (by kernel_rfl)⟩) lfNil)) rfl (get_lps (by omega)) fiB6 [.r 2000000 5 1 true] [⟨blk_l, base_l, l.length, es_l⟩] (run4 ) (args := [.slice (some ⟨blk_l, base_l, none⟩) l.length es_l, .int .u16 out]) ⟨_, _, rfl, relSr w_l.room, ⟨_, _, rfl, rfl, rfl⟩⟩ w hl rfl (by decide) (args1 (w_l.arg (g_l ) rfl)) nodup1
def hy5 : LK := [(.rl (.x 2000000) 1, .x 1),
  (.bin .gtr (.x 1) (.i .i64 (.ofNat 30)), .b false),
  (.bin .rem (.x 0) (.i .u16 (.ofNat 1000)), .x 2),
  (.conv 3 (.x 2), .x 3),
  (.bin .eql (.i .i64 (.ofNat 0)) (.x 4), .b true)]
def lh3 : LH := ⟨4, 7, 18, [(4, .r 2000000 5 1 true), (6, .b ⟨112, .l [.i .i64 (.ofNat 1000), .i .i64 (.ofNat 100), .x 3, .i .i64 (.ofNat 0), .p 5 0, .b false, .nils], 0, 0, 0, false, false⟩)], [(4, .r 2000001 5 1 true), (6, .b ⟨112, .l [.i .i64 (.ofNat 1000), .i .i64 (.ofNat 100), .x 5, .i .i64 (.ofNat 2), .p 5 0, .b false, .nils], 0, 0, 0, false, false⟩)]⟩
def lf3 : LF := ⟨9, 96, [(0, .sr 4), (5, .x 3), (6, .p 6 0), (7, .i .i64 (.ofNat 0)), (8, .b true), (9, .i .i64 (.ofNat 0))], [], (.exit 0), [(0, .sr 4), (5, .x 5), (6, .p 6 0), (7, .x 4), (8, .b false)], some lh3⟩
noncomputable def tab5 : Tab := addLps ({ tabk with hyp := hy5 }) 6 fi6 [lf3]
theorem run5 : Go.AX.okB (call tab5 9000 6 [.sr 4, .x 0] ⟨addR 4 [.r 2000000 5 1 true] (H0 ), 4 + List.length (α := Ent) [.r 2000000 5 1 true], 0, 0⟩) = true := by kernel_rfl
def nu5 (blk_l : Nat) (base_l : Nat) (es_l : Nat) (l : List Int) (out : Int) : List Value := [.int .u16 (out),
  .int .i64 ((l.length : Int)),
  .int .u16 (out % 1000),
  .int .i64 ((out % 1000)),
  .int .i64 ((tlN 0 (out % 1000) l)),
  .int .i64 ((out % 1000))]
def ro5 (blk_l : Nat) (base_l : Nat) (es_l : Nat) (l : List Int) (out : Int) : List Value := [rwI .u8 l,
  rwI .u8 l]
theorem on5 (blk_l : Nat) (base_l : Nat) (es_l : Nat) (l : List Int) (out : Int) : ∀ j, (nuL (nu5 blk_l base_l es_l l out) j).oneCell' = true := nuL_one (l := nu5 blk_l base_l es_l l out) rfl
theorem path5 (blk_l : Nat) (base_l : Nat) (es_l : Nat) (l : List Int) (out : Int) (b0 : ∀ n, n ∈ l → 0 ≤ n ∧ n ≤ 255) (b1 : l.length ≤ 9223372036854775807) (b2 : 0 ≤ out) (b3 : out ≤ 65535) (h0 : ¬ (30 < (l.length : Int))) (h1 : ¬ ((tlB 0 (out % 1000) l) = true)) (h2 : (tlN 0 (out % 1000) l) = 0) (w : World) (hl : laidE w) (w_l : InRow w 1 (l.map (Value.int .u8)) blk_l base_l l.length es_l) (g_l : (H0 ).get blk_l = none) : CwR 6 #[.slice (some ⟨blk_l, base_l, none⟩) l.length es_l, .int .u16 out] w (.bool true) := by
  have hrg := tl_rng l 0 (out % 1000) (by assumption) (by omega) (by omega)
  have ho : ∀ k r, (k, r) ∈ hy5 → HOk (cx (nuX (nu5 blk_l base_l es_l l out) (rX (ro5 blk_l base_l es_l l out) (fun _ => .bool true))) (nuX_one (on5 blk_l base_l es_l l out)) 0 laidE laidE_stab) k r := by
    unfold hy5
    exact hc (kRlI (isX rfl) (denX rfl) (by first | omega | (simp <;> omega))) <|
     hc (gtcF rfl (by omega)) <|
     hc (kRem (isX rfl) (isZ (m := 1000) rfl) (denX rfl) (by omega) (by omega) rfl) <|
     hc (kConvF (isX rfl) tu3 (denX rfl) (fI64 (by omega) (by omega))) <|
     hc (kEqI (isZ (m := 0) rfl) (isX rfl) (decide_eq_true (by omega))) <|
     hnil
  exact runPR (tb := tab5) (AllOk.lp1 ((tabkOk (nuX (nu5 blk_l base_l es_l l out) (rX (ro5 blk_l base_l es_l l out) (fun _ => .bool true))) (nuX_one (on5 blk_l base_l es_l l out))).hyps ho) (by omega) fi6_at fi6_body (lfCons (lpKnown rfl ⟨0, keyOc, lfOkOc_2 (l := lf3) (h := lh3) l (out % 1000) (tlN 0 (out % 1000) l) (tlB 0 (out % 1000) l) (Bool.eq_false_iff.2 (by assumption)) (by assumption) (0, (0 : Int), (0 : Int)) (mkIOc l (out % 1000) (tlN 0 (out % 1000) l) (tlB 0 (out % 1000) l) 0 (0 : Int) (0 : Int) ⟨by omega, by omega, by omega, by assumption, by omega, by omega, by omega, by omega, fun _ => rfl, fun _ => rfl, fun h => by omega, fun h => by omega, fun _ => rfl, fun h => by omega, by omega⟩) rfl (by kernel_rfl) (th0 := [(0, .i .i64 (.ofNat 0)), (1, .i .i64 (.ofNat 0)), (2, .x 3), (2000000, .x 2000000)]) (sg0 := []) (fun X => thCons (show Is _ (.i .i64 (.ofNat 0)) (.int .i64 ((0 : Int))) from isTo (v := .int .i64 0) (isI _ _) (by first | rfl | (congr 1; omega))) (thCons (show Is _ (.i .i64 (.ofNat 0)) (.int .i64 ((0 : Int))) from isTo (v := .int .i64 0) (isI _ _) (by first | rfl | (congr 1; omega))) (thXv (v := .int .i64 ((out % 1000))) rfl rfl (thXv (v := rwI .u8 l) rfl rfl (thNil))))) (by kernel_rfl) (thx := [(4, .x 0), (5, .x 1), (2000001, .x 2000000)]) (thXv (v := .int .i64 ((tlN 0 (out % 1000) l))) rfl rfl (thXv (v := .int .i64 ((out % 1000))) rfl rfl (thXv (v := rwI .u8 l) rfl rfl (thNil)))) (by kernel_rfl)⟩) lfNil)) rfl (get_lps (by omega)) fiB6 [.r 2000000 5 1 true] [⟨blk_l, base_l, l.length, es_l⟩] (run5 ) (args := [.slice (some ⟨blk_l, base_l, none⟩) l.length es_l, .int .u16 out]) ⟨_, _, rfl, relSr w_l.room, ⟨_, _, rfl, rfl, rfl⟩⟩ w hl rfl (by decide) (args1 (w_l.arg (g_l ) rfl)) nodup1
def hy6 : LK := [(.rl (.x 2000000) 1, .x 1),
  (.bin .gtr (.x 1) (.i .i64 (.ofNat 30)), .b false),
  (.bin .rem (.x 0) (.i .u16 (.ofNat 1000)), .x 2),
  (.conv 3 (.x 2), .x 3),
  (.len (.x 6), .x 7),
  (.mm false (.i .i64 (.ofNat 100000)) (.x 7), .x 7),
  (.bin .eql (.x 7) (.x 4), .b true)]
def lh4 : LH := ⟨4, 7, 18, [(4, .r 2000000 5 1 true), (6, .b ⟨112, .l [.i .i64 (.ofNat 1000), .i .i64 (.ofNat 100), .x 3, .i .i64 (.ofNat 0), .p 5 0, .b false, .nils], 0, 0, 0, false, false⟩)], [(4, .r 2000001 5 1 true), (6, .b ⟨112, .l [.i .i64 (.ofNat 1000), .i .i64 (.ofNat 100), .x 5, .i .i64 (.ofNat 2), .p 5 0, .b false, .sy 7], 0, 0, 0, false, false⟩), (7, .t 6 5)]⟩
def lf4 : LF := ⟨9, 96, [(0, .sr 4), (5, .x 3), (6, .p 6 0), (7, .i .i64 (.ofNat 0)), (8, .b true), (9, .i .i64 (.ofNat 0))], [], (.exit 0), [(0, .sr 4), (5, .x 5), (6, .p 6 0), (7, .x 4), (8, .b false)], some lh4⟩
noncomputable def tab6 : Tab := addLps ({ tabk with hyp := hy6 }) 6 fi6 [lf4]
theorem run6 : Go.AX.okB (call tab6 9000 6 [.sr 4, .x 0] ⟨addR 4 [.r 2000000 5 1 true] (H0 ), 4 + List.length (α := Ent) [.r 2000000 5 1 true], 0, 0⟩) = true := by kernel_rfl
def nu6 (blk_l : Nat) (base_l : Nat) (es_l : Nat) (l : List Int) (out : Int) : List Value := [.int .u16 (out),
  .int .i64 ((l.length : Int)),
  .int .u16 (out % 1000),
  .int .i64 ((out % 1000)),
  .int .i64 ((tlN 0 (out % 1000) l)),
  .int .i64 ((out % 1000)),
  St' (List.replicate (Int.toNat ((tlN 0 (out % 1000) l))) 0),
  .int .i64 ((tlN 0 (out % 1000) l))]
def ro6 (blk_l : Nat) (base_l : Nat) (es_l : Nat) (l : List Int) (out : Int) : List Value := [rwI .u8 l,
  rwI .u8 l]
theorem on6 (blk_l : Nat) (base_l : Nat) (es_l : Nat) (l : List Int) (out : Int) : ∀ j, (nuL (nu6 blk_l base_l es_l l out) j).oneCell' = true := nuL_one (l := nu6 blk_l base_l es_l l out) rfl
theorem path6 (blk_l : Nat) (base_l : Nat) (es_l : Nat) (l : List Int) (out : Int) (b0 : ∀ n, n ∈ l → 0 ≤ n ∧ n ≤ 255) (b1 : l.length ≤ 9223372036854775807) (b2 : 0 ≤ out) (b3 : out ≤ 65535) (h0 : ¬ (30 < (l.length : Int))) (h1 : ¬ ((tlB 0 (out % 1000) l) = true)) (h2 : ¬ ((tlN 0 (out % 1000) l) = 0)) (w : World) (hl : laidE w) (w_l : InRow w 1 (l.map (Value.int .u8)) blk_l base_l l.length es_l) (g_l : (H0 ).get blk_l = none) : CwR 6 #[.slice (some ⟨blk_l, base_l, none⟩) l.length es_l, .int .u16 out] w (.bool true) := by
  have hrg := tl_rng l 0 (out % 1000) (by assumption) (by omega) (by omega)
  have ho : ∀ k r, (k, r) ∈ hy6 → HOk (cx (nuX (nu6 blk_l base_l es_l l out) (rX (ro6 blk_l base_l es_l l out) (fun _ => .bool true))) (nuX_one (on6 blk_l base_l es_l l out)) 0 laidE laidE_stab) k r := by
    unfold hy6
    exact hc (kRlI (isX rfl) (denX rfl) (by first | omega | (simp <;> omega))) <|
     hc (gtcF rfl (by omega)) <|
     hc (kRem (isX rfl) (isZ (m := 1000) rfl) (denX rfl) (by omega) (by omega) rfl) <|
     hc (kConvF (isX rfl) tu3 (denX rfl) (fI64 (by omega) (by omega))) <|
     hc (lnV rfl rfl (by first | omega | (simp <;> omega))) <|
     hc (kMin (isZ (m := 100000) rfl) (isX rfl) (denX rfl) (by omega)) <|
     hc (eqXT rfl rfl (by omega)) <|
     hnil
  exact runPR (tb := tab6) (AllOk.lp1 ((tabkOk (nuX (nu6 blk_l base_l es_l l out) (rX (ro6 blk_l base_l es_l l out) (fun _ => .bool true))) (nuX_one (on6 blk_l base_l es_l l out))).hyps ho) (by omega) fi6_at fi6_body (lfCons (lpKnown rfl ⟨0, keyOc, lfOkOc_3 (l := lf4) (h := lh4) l (out % 1000) (tlN 0 (out % 1000) l) (tlB 0 (out % 1000) l) (Bool.eq_false_iff.2 (by assumption)) (by assumption) (0, (0 : Int), (0 : Int)) (mkIOc l (out % 1000) (tlN 0 (out % 1000) l) (tlB 0 (out % 1000) l) 0 (0 : Int) (0 : Int) ⟨by omega, by omega, by omega, by assumption, by omega, by omega, by omega, by omega, fun _ => rfl, fun _ => rfl, fun h => by omega, fun h => by omega, fun _ => rfl, fun h => by omega, by omega⟩) rfl (by kernel_rfl) (th0 := [(0, .i .i64 (.ofNat 0)), (1, .i .i64 (.ofNat 0)), (2, .x 3), (2000000, .x 2000000)]) (sg0 := []) (fun X => thCons (show Is _ (.i .i64 (.ofNat 0)) (.int .i64 ((0 : Int))) from isTo (v := .int .i64 0) (isI _ _) (by first | rfl | (congr 1; omega))) (thCons (show Is _ (.i .i64 (.ofNat 0)) (.int .i64 ((0 : Int))) from isTo (v := .int .i64 0) (isI _ _) (by first | rfl | (congr 1; omega))) (thXv (v := .int .i64 ((out % 1000))) rfl rfl (thXv (v := rwI .u8 l) rfl rfl (thNil))))) (by kernel_rfl) (thx := [(4, .x 0), (5, .x 1), (6, .x 2), (2000001, .x 2000000)]) (thXv (v := .int .i64 ((tlN 0 (out % 1000) l))) rfl rfl (thXv (v := .int .i64 ((out % 1000))) rfl rfl (thXv (v := St' (List.replicate (Int.toNat ((tlN 0 (out % 1000) l))) 0)) rfl rfl (thXv (v := rwI .u8 l) rfl rfl (thNil))))) (by kernel_rfl)⟩) lfNil)) rfl (get_lps (by omega)) fiB6 [.r 2000000 5 1 true] [⟨blk_l, base_l, l.length, es_l⟩] (run6 ) (args := [.slice (some ⟨blk_l, base_l, none⟩) l.length es_l, .int .u16 out]) ⟨_, _, rfl, relSr w_l.room, ⟨_, _, rfl, rfl, rfl⟩⟩ w hl rfl (by decide) (args1 (w_l.arg (g_l ) rfl)) nodup1
end Go.Proofs.YtcocflhgmjhhlaaGreatDoor.clientOut
